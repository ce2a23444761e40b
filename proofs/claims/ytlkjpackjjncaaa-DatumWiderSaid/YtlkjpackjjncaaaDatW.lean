/- DatW: the head of the laws of layer 4. -/
import Derived.Test.YtlkjpackjjncaaaDatV
import Derived.Test.YtlkjpackjjncaaaRows
import Derived.WalkKit
import Derived.WalkSpells
import Derived.WalkLawsBesides
import Derived.Lib.Hide
import Derived.Deep.QuietTactic
import Derived.BigQuiet
import Derived.RegionTactic
import Derived.ChangeAlike
import Derived.BigRegion
import Derived.Deep.RegionHeld3
import Derived.Deep.RegionWith
import Derived.Outline
import Derived.Laws.EntriesVeiled
import Derived.Deep.DeepCutAuto
namespace Go.Proofs.Ytlkjpackjjncaaa.Da
open Go.RowKit Sp
set_option linter.unusedSimpArgs false
set_option linter.unusedVariables false

set_option maxRecDepth 100000 in
set_option maxHeartbeats 25600000 in
theorem head_c  (w : World)  : Calls Try.prog 11 #[] w (Ret w (.bool true)) := by
  go_enter Try.func11, Try.ntmps11
  go_wp2_with fail
  refine Calls.mono (ex0 _) ?_
  rintro e w1 ⟨rfl, hb⟩
  have km0 : w1.cell? ⟨w.heap.size, 0, none⟩ = some (.int .i64 0) := cell_later hb (by go_simp)
  have km1 : w1.cell? ⟨w.heap.size, 1, none⟩ = some (.int .i64 (-1000000)) := cell_later hb (by go_simp)
  have km2 : w1.cell? ⟨w.heap.size, 2, none⟩ = some (.int .i64 10) := cell_later hb (by go_simp)
  have km3 : w1.cell? ⟨w.heap.size, 3, none⟩ = some (.int .i64 1000000) := cell_later hb (by go_simp)
  have km4 : w1.cell? ⟨w.heap.size, 4, none⟩ = some (.int .i64 0) := cell_later hb (by go_simp)
  have km5 : w1.cell? ⟨w.heap.size, 5, none⟩ = some (.int .i64 0) := cell_later hb (by go_simp)
  have km6 : w1.cell? ⟨w.heap.size, 6, none⟩ = some (.int .i64 1) := cell_later hb (by go_simp)
  have kn0 : w1.cell? ⟨w.heap.size + 1, 0, none⟩ = some (.int .i64 1000000) := cell_later hb (by go_simp)
  have kn1 : w1.cell? ⟨w.heap.size + 1, 1, none⟩ = some (.int .i64 0) := cell_later hb (by go_simp)
  have kn2 : w1.cell? ⟨w.heap.size + 1, 2, none⟩ = some (.int .i64 5) := cell_later hb (by go_simp)
  have kn3 : w1.cell? ⟨w.heap.size + 1, 3, none⟩ = some (.int .i64 0) := cell_later hb (by go_simp)
  have kn4 : w1.cell? ⟨w.heap.size + 1, 4, none⟩ = some (.int .i64 1000000) := cell_later hb (by go_simp)
  have kn5 : w1.cell? ⟨w.heap.size + 1, 5, none⟩ = some (.int .i64 5) := cell_later hb (by go_simp)
  have kn6 : w1.cell? ⟨w.heap.size + 1, 6, none⟩ = some (.int .i64 0) := cell_later hb (by go_simp)
  have kp0 : w1.cell? ⟨w.heap.size + 1 + 1, 0, none⟩ = some (.int .i64 3) := cell_later hb (by go_simp)
  have kp1 : w1.cell? ⟨w.heap.size + 1 + 1, 1, none⟩ = some (.int .i64 4) := cell_later hb (by go_simp)
  have zm : w.heap.size < w1.heap.size := World.block_lt_of_cell? _ _ km0
  have zm_w1 := zm
  have zn : w.heap.size + 1 < w1.heap.size := World.block_lt_of_cell? _ _ kn0
  have zn_w1 := zn
  have zp : w.heap.size + 1 + 1 < w1.heap.size := World.block_lt_of_cell? _ _ kp0
  have zp_w1 := zp
  have hb0 : Below w.heap.size w w1 := (by repeat (first | with_reducible exact Below.refl _ _ | with_reducible assumption | with_reducible refine Below.setCell ?_ (by first | omega | (simp <;> omega)) _ | with_reducible refine balloc ?_ _ | with_reducible refine Below.drew ?_ | with_reducible refine bstep ?_ (by with_reducible assumption)))
  have hs_w1 := hb.size; (try simp only [World.size_alloc, World.size_setCell] at hs_w1)
  clear hb
  go_wp2_with fail
  refine Calls.mono (ex1 _) ?_
  rintro e w2 ⟨rfl, hb⟩
  replace km0 := cell_later hb km0
  replace km1 := cell_later hb km1
  replace km2 := cell_later hb km2
  replace km3 := cell_later hb km3
  replace km4 := cell_later hb km4
  replace km5 := cell_later hb km5
  replace km6 := cell_later hb km6
  replace kn0 := cell_later hb kn0
  replace kn1 := cell_later hb kn1
  replace kn2 := cell_later hb kn2
  replace kn3 := cell_later hb kn3
  replace kn4 := cell_later hb kn4
  replace kn5 := cell_later hb kn5
  replace kn6 := cell_later hb kn6
  replace kp0 := cell_later hb kp0
  replace kp1 := cell_later hb kp1
  replace zm : w.heap.size < w2.heap.size := World.block_lt_of_cell? _ _ km0
  have zm_w2 := zm
  replace zn : w.heap.size + 1 < w2.heap.size := World.block_lt_of_cell? _ _ kn0
  have zn_w2 := zn
  replace zp : w.heap.size + 1 + 1 < w2.heap.size := World.block_lt_of_cell? _ _ kp0
  have zp_w2 := zp
  replace hb0 : Below w.heap.size w w2 := (by repeat (first | with_reducible exact Below.refl _ _ | with_reducible assumption | with_reducible refine Below.setCell ?_ (by first | omega | (simp <;> omega)) _ | with_reducible refine balloc ?_ _ | with_reducible refine Below.drew ?_ | with_reducible refine bstep ?_ (by with_reducible assumption)))
  have hs_w2 : w1.heap.size ≤ w2.heap.size := hb.size
  clear hb
  go_wp2_with fail
  refine Calls.mono (ex2 _) ?_
  rintro e w3 ⟨rfl, hb⟩
  replace km0 := cell_later hb km0
  replace km1 := cell_later hb km1
  replace km2 := cell_later hb km2
  replace km3 := cell_later hb km3
  replace km4 := cell_later hb km4
  replace km5 := cell_later hb km5
  replace km6 := cell_later hb km6
  replace kn0 := cell_later hb kn0
  replace kn1 := cell_later hb kn1
  replace kn2 := cell_later hb kn2
  replace kn3 := cell_later hb kn3
  replace kn4 := cell_later hb kn4
  replace kn5 := cell_later hb kn5
  replace kn6 := cell_later hb kn6
  replace kp0 := cell_later hb kp0
  replace kp1 := cell_later hb kp1
  replace zm : w.heap.size < w3.heap.size := World.block_lt_of_cell? _ _ km0
  have zm_w3 := zm
  replace zn : w.heap.size + 1 < w3.heap.size := World.block_lt_of_cell? _ _ kn0
  have zn_w3 := zn
  replace zp : w.heap.size + 1 + 1 < w3.heap.size := World.block_lt_of_cell? _ _ kp0
  have zp_w3 := zp
  replace hb0 : Below w.heap.size w w3 := (by repeat (first | with_reducible exact Below.refl _ _ | with_reducible assumption | with_reducible refine Below.setCell ?_ (by first | omega | (simp <;> omega)) _ | with_reducible refine balloc ?_ _ | with_reducible refine Below.drew ?_ | with_reducible refine bstep ?_ (by with_reducible assumption)))
  have hs_w3 : w2.heap.size ≤ w3.heap.size := hb.size
  clear hb
  go_upto_region 7 with fail
  go_cut [10, 11] (fun s10 s11 wx => ∃ gd : Nat, s10 = .pointer (some ⟨gd, 0, none⟩) ∧ s11 = (.int .i64 0) ∧ w3.heap.size + 1 ≤ gd ∧ wx.cell? ⟨gd, 0, none⟩ = some (.int .i64 (-11)) ∧ wx.cell? ⟨gd, 1, none⟩ = some (.int .i64 11) ∧ wx.cell? ⟨gd, 2, none⟩ = some (.int .i64 (-1)) ∧ wx.cell? ⟨gd, 3, none⟩ = some (.int .i64 11) ∧ wx.cell? ⟨w.heap.size, 0, none⟩ = some (.int .i64 0) ∧ wx.cell? ⟨w.heap.size, 1, none⟩ = some (.int .i64 (-1000000)) ∧ wx.cell? ⟨w.heap.size, 2, none⟩ = some (.int .i64 10) ∧ wx.cell? ⟨w.heap.size, 3, none⟩ = some (.int .i64 1000000) ∧ wx.cell? ⟨w.heap.size, 4, none⟩ = some (.int .i64 0) ∧ wx.cell? ⟨w.heap.size, 5, none⟩ = some (.int .i64 0) ∧ wx.cell? ⟨w.heap.size, 6, none⟩ = some (.int .i64 1) ∧ wx.cell? ⟨w.heap.size + 1, 0, none⟩ = some (.int .i64 1000000) ∧ wx.cell? ⟨w.heap.size + 1, 1, none⟩ = some (.int .i64 0) ∧ wx.cell? ⟨w.heap.size + 1, 2, none⟩ = some (.int .i64 5) ∧ wx.cell? ⟨w.heap.size + 1, 3, none⟩ = some (.int .i64 0) ∧ wx.cell? ⟨w.heap.size + 1, 4, none⟩ = some (.int .i64 1000000) ∧ wx.cell? ⟨w.heap.size + 1, 5, none⟩ = some (.int .i64 5) ∧ wx.cell? ⟨w.heap.size + 1, 6, none⟩ = some (.int .i64 0) ∧ wx.cell? ⟨w.heap.size + 1 + 1, 0, none⟩ = some (.int .i64 3) ∧ wx.cell? ⟨w.heap.size + 1 + 1, 1, none⟩ = some (.int .i64 4) ∧ wx.cell? ⟨w3.heap.size, 0, none⟩ = some (.int .i64 5) ∧ wx.cell? ⟨w3.heap.size, 1, none⟩ = some (.int .i64 7) ∧ wx.cell? ⟨w3.heap.size, 2, none⟩ = some (.int .i64 2) ∧ wx.cell? ⟨w3.heap.size, 3, none⟩ = some (.int .i64 4) ∧ Below w.heap.size w wx)
  case first =>
    refine wp_region_held_drew (S := fun w' => w'.cell? ⟨w.heap.size, 0, none⟩ = some (.int .i64 0) ∧ w'.cell? ⟨w.heap.size, 1, none⟩ = some (.int .i64 (-1000000)) ∧ w'.cell? ⟨w.heap.size, 2, none⟩ = some (.int .i64 10) ∧ w'.cell? ⟨w.heap.size, 3, none⟩ = some (.int .i64 1000000) ∧ w'.cell? ⟨w.heap.size, 4, none⟩ = some (.int .i64 0) ∧ w'.cell? ⟨w.heap.size, 5, none⟩ = some (.int .i64 0) ∧ w'.cell? ⟨w.heap.size, 6, none⟩ = some (.int .i64 1)) (by kernel_rfl) (by first | (go_keep; done) | ((repeat' apply And.intro) <;> go_simp)) (fun hHeld => ?_)
    refine wpAnyH_take (i := 0) (oi := ⟨some 49, _, _, _, _, _⟩) (v := ?_) rfl (by kernel_rfl) (by kernel_rfl) (by kernel_rfl) (fun _ _ _ h => h) (Or.inl ⟨by rfl, ?_⟩) (by assumption) ?_
    rotate_left
    · intro w hSw; (try dsimp only at hSw); go_simp; try with_reducible rfl
    try simp only [Act.put, List.setIfInBounds_toArray, List.set_cons_zero, List.set_cons_succ]
    refine wpAnyH_ready (rs := [1, 6]) (by kernel_rfl) (by simp) ?_
    refine AllReadyH.cons (o := ⟨some 50, _, _, _, _, _⟩) rfl (fun KK hKK => ?_) (AllReadyH.cons (o := ⟨some 10, _, _, _, _, _⟩) rfl (fun KK hKK => ?_) AllReadyH.nil)
    · go_simp
      refine Calls.mono (box_c 0 10 0 20 _) ?_
      rintro e wt4 ⟨rfl, hb⟩
      replace km0 := cell_later hb (cell_al _ km0)
      replace km1 := cell_later hb (cell_al _ km1)
      replace km2 := cell_later hb (cell_al _ km2)
      replace km3 := cell_later hb (cell_al _ km3)
      replace km4 := cell_later hb (cell_al _ km4)
      replace km5 := cell_later hb (cell_al _ km5)
      replace km6 := cell_later hb (cell_al _ km6)
      replace kn0 := cell_later hb (cell_al _ kn0)
      replace kn1 := cell_later hb (cell_al _ kn1)
      replace kn2 := cell_later hb (cell_al _ kn2)
      replace kn3 := cell_later hb (cell_al _ kn3)
      replace kn4 := cell_later hb (cell_al _ kn4)
      replace kn5 := cell_later hb (cell_al _ kn5)
      replace kn6 := cell_later hb (cell_al _ kn6)
      replace kp0 := cell_later hb (cell_al _ kp0)
      replace kp1 := cell_later hb (cell_al _ kp1)
      have kc0 : wt4.cell? ⟨w3.heap.size, 0, none⟩ = some (.int .i64 5) := cell_later hb (by go_simp)
      have kc1 : wt4.cell? ⟨w3.heap.size, 1, none⟩ = some (.int .i64 7) := cell_later hb (by go_simp)
      have kc2 : wt4.cell? ⟨w3.heap.size, 2, none⟩ = some (.int .i64 2) := cell_later hb (by go_simp)
      have kc3 : wt4.cell? ⟨w3.heap.size, 3, none⟩ = some (.int .i64 4) := cell_later hb (by go_simp)
      replace zm : w.heap.size < wt4.heap.size := World.block_lt_of_cell? _ _ km0
      have zm_wt4 := zm
      replace zn : w.heap.size + 1 < wt4.heap.size := World.block_lt_of_cell? _ _ kn0
      have zn_wt4 := zn
      replace zp : w.heap.size + 1 + 1 < wt4.heap.size := World.block_lt_of_cell? _ _ kp0
      have zp_wt4 := zp
      have zc : w3.heap.size < wt4.heap.size := World.block_lt_of_cell? _ _ kc0
      have zc_wt4 := zc
      replace hb0 : Below w.heap.size w wt4 := (by repeat (first | with_reducible exact Below.refl _ _ | with_reducible assumption | with_reducible refine Below.setCell ?_ (by first | omega | (simp <;> omega)) _ | with_reducible refine balloc ?_ _ | with_reducible refine Below.drew ?_ | with_reducible refine bstep ?_ (by with_reducible assumption)))
      have hs_wt4 := hb.size; (try simp only [World.size_alloc, World.size_setCell] at hs_wt4)
      clear hb
      (try go_wp2_with fail)
      refine hKK.out _ _ (by first | (go_keep; done) | ((repeat' apply And.intro) <;> go_simp)) (fun hHeld => ?_)
      clear hKK KK
      try simp only [Act.put, List.setIfInBounds_toArray, List.set_cons_zero, List.set_cons_succ]
      refine wpAnyH_ready (rs := [2, 6]) (by kernel_rfl) (by simp) ?_
      refine AllReadyH.cons (o := ⟨some 51, _, _, _, _, _⟩) rfl (fun KK hKK => ?_) (AllReadyH.cons (o := ⟨some 10, _, _, _, _, _⟩) rfl (fun KK hKK => ?_) AllReadyH.nil)
      · go_simp
        refine Calls.mono (ex3 _) ?_
        rintro e wt5 ⟨rfl, hb⟩
        replace km0 := cell_later hb km0
        replace km1 := cell_later hb km1
        replace km2 := cell_later hb km2
        replace km3 := cell_later hb km3
        replace km4 := cell_later hb km4
        replace km5 := cell_later hb km5
        replace km6 := cell_later hb km6
        replace kn0 := cell_later hb kn0
        replace kn1 := cell_later hb kn1
        replace kn2 := cell_later hb kn2
        replace kn3 := cell_later hb kn3
        replace kn4 := cell_later hb kn4
        replace kn5 := cell_later hb kn5
        replace kn6 := cell_later hb kn6
        replace kp0 := cell_later hb kp0
        replace kp1 := cell_later hb kp1
        replace kc0 := cell_later hb kc0
        replace kc1 := cell_later hb kc1
        replace kc2 := cell_later hb kc2
        replace kc3 := cell_later hb kc3
        replace zm : w.heap.size < wt5.heap.size := World.block_lt_of_cell? _ _ km0
        have zm_wt5 := zm
        replace zn : w.heap.size + 1 < wt5.heap.size := World.block_lt_of_cell? _ _ kn0
        have zn_wt5 := zn
        replace zp : w.heap.size + 1 + 1 < wt5.heap.size := World.block_lt_of_cell? _ _ kp0
        have zp_wt5 := zp
        replace zc : w3.heap.size < wt5.heap.size := World.block_lt_of_cell? _ _ kc0
        have zc_wt5 := zc
        replace hb0 : Below w.heap.size w wt5 := (by repeat (first | with_reducible exact Below.refl _ _ | with_reducible assumption | with_reducible refine Below.setCell ?_ (by first | omega | (simp <;> omega)) _ | with_reducible refine balloc ?_ _ | with_reducible refine Below.drew ?_ | with_reducible refine bstep ?_ (by with_reducible assumption)))
        have hs_wt5 : wt4.heap.size ≤ wt5.heap.size := hb.size
        clear hb
        (try go_wp2_with fail)
        refine hKK.out _ _ (by first | (go_keep; done) | ((repeat' apply And.intro) <;> go_simp)) (fun hHeld => ?_)
        clear hKK KK
        try simp only [Act.put, List.setIfInBounds_toArray, List.set_cons_zero, List.set_cons_succ]
        refine wpAnyH_take (i := 3) (oi := ⟨some 48, _, _, _, _, _⟩) (v := ?_) rfl (by kernel_rfl) (by kernel_rfl) (by kernel_rfl) (fun _ _ _ h => h) (Or.inl ⟨by rfl, ?_⟩) (by assumption) ?_
        rotate_left
        · intro w hSw; (try dsimp only at hSw); go_simp; try with_reducible rfl
        try simp only [Act.put, List.setIfInBounds_toArray, List.set_cons_zero, List.set_cons_succ]
        refine wpAnyH_take (i := 4) (oi := ⟨some 52, _, _, _, _, _⟩) (v := ?_) rfl (by kernel_rfl) (by kernel_rfl) (by kernel_rfl) (fun _ _ _ h => h) (Or.inl ⟨by rfl, ?_⟩) (by assumption) ?_
        rotate_left
        · intro w hSw; (try dsimp only at hSw); go_simp; try with_reducible rfl
        try simp only [Act.put, List.setIfInBounds_toArray, List.set_cons_zero, List.set_cons_succ]
        refine wpAnyH_take (i := 5) (oi := ⟨some 53, _, _, _, _, _⟩) (v := ?_) rfl (by kernel_rfl) (by kernel_rfl) (by kernel_rfl) (fun _ _ _ h => h) (Or.inl ⟨by rfl, ?_⟩) (by assumption) ?_
        rotate_left
        · intro w hSw; (try dsimp only at hSw); go_simp; try with_reducible rfl
        try simp only [Act.put, List.setIfInBounds_toArray, List.set_cons_zero, List.set_cons_succ]
        refine wpAnyH_ready (rs := [6]) (by kernel_rfl) (by simp) ?_
        refine AllReadyH.cons (o := ⟨some 10, _, _, _, _, _⟩) rfl (fun KK hKK => ?_) AllReadyH.nil
        go_simp
        (try go_wp2_with fail)
        refine hKK.out _ _ (by first | (go_keep; done) | ((repeat' apply And.intro) <;> go_simp)) (fun hHeld => ?_)
        clear hKK KK
        try simp only [Act.put, List.setIfInBounds_toArray, List.set_cons_zero, List.set_cons_succ]
        refine wpAnyH_ready (rs := [7]) (by kernel_rfl) (by simp) ?_
        refine AllReadyH.cons (o := ⟨none, _, _, _, _, _⟩) rfl (fun KK hKK => ?_) AllReadyH.nil
        go_simp
        (try go_wp2_with fail)
        refine hKK.out _ _ (by first | (go_keep; done) | ((repeat' apply And.intro) <;> go_simp)) (fun hHeld => ?_)
        clear hKK KK
        try simp only [Act.put, List.setIfInBounds_toArray, List.set_cons_zero, List.set_cons_succ]
        refine wpAnyH_take (i := 8) (oi := ⟨some 11, _, _, _, _, _⟩) (v := ?_) rfl (by kernel_rfl) (by kernel_rfl) (by kernel_rfl) (fun _ _ _ h => h) (Or.inl ⟨by rfl, ?_⟩) (by assumption) ?_
        rotate_left
        · intro w hSw; (try dsimp only at hSw); go_simp; try with_reducible rfl
        try simp only [Act.put, List.setIfInBounds_toArray, List.set_cons_zero, List.set_cons_succ]
        refine wpAnyH_done (by kernel_rfl) ?_ _
        (try dsimp only [Exit.then, Met])
        go_wp2_with fail
        go_meet
        refine ⟨_, rfl, rfl, by first | omega | (simp; omega), ?_, ?_, ?_, ?_, ?_, ?_, ?_, ?_, ?_, ?_, ?_, ?_, ?_, ?_, ?_, ?_, ?_, ?_, ?_, ?_, ?_, ?_, ?_, ?_, (by repeat (first | with_reducible exact Below.refl _ _ | with_reducible assumption | with_reducible refine Below.setCell ?_ (by first | omega | (simp <;> omega)) _ | with_reducible refine balloc ?_ _ | with_reducible refine Below.drew ?_ | with_reducible refine bstep ?_ (by with_reducible assumption)))⟩
        all_goals first | (with_reducible assumption) | go_simp
      · go_simp
        (try go_wp2_with fail)
        refine hKK.out _ _ (by first | (go_keep; done) | ((repeat' apply And.intro) <;> go_simp)) (fun hHeld => ?_)
        clear hKK KK
        try simp only [Act.put, List.setIfInBounds_toArray, List.set_cons_zero, List.set_cons_succ]
        refine wpAnyH_ready (rs := [2]) (by kernel_rfl) (by simp) ?_
        refine AllReadyH.cons (o := ⟨some 51, _, _, _, _, _⟩) rfl (fun KK hKK => ?_) AllReadyH.nil
        go_simp
        refine Calls.mono (ex3 _) ?_
        rintro e wt5 ⟨rfl, hb⟩
        replace km0 := cell_later hb (cell_al _ km0)
        replace km1 := cell_later hb (cell_al _ km1)
        replace km2 := cell_later hb (cell_al _ km2)
        replace km3 := cell_later hb (cell_al _ km3)
        replace km4 := cell_later hb (cell_al _ km4)
        replace km5 := cell_later hb (cell_al _ km5)
        replace km6 := cell_later hb (cell_al _ km6)
        replace kn0 := cell_later hb (cell_al _ kn0)
        replace kn1 := cell_later hb (cell_al _ kn1)
        replace kn2 := cell_later hb (cell_al _ kn2)
        replace kn3 := cell_later hb (cell_al _ kn3)
        replace kn4 := cell_later hb (cell_al _ kn4)
        replace kn5 := cell_later hb (cell_al _ kn5)
        replace kn6 := cell_later hb (cell_al _ kn6)
        replace kp0 := cell_later hb (cell_al _ kp0)
        replace kp1 := cell_later hb (cell_al _ kp1)
        replace kc0 := cell_later hb (cell_al _ kc0)
        replace kc1 := cell_later hb (cell_al _ kc1)
        replace kc2 := cell_later hb (cell_al _ kc2)
        replace kc3 := cell_later hb (cell_al _ kc3)
        have kd0 : wt5.cell? ⟨wt4.heap.size, 0, none⟩ = some (.int .i64 0) := cell_later hb (by go_simp)
        have jd0 : wt5.frozen? ⟨wt4.heap.size, 0, none⟩ = false := by rw [(bcell hb).2 _ _ (by first | omega | (simp <;> omega))]; go_simp
        have kd1 : wt5.cell? ⟨wt4.heap.size, 1, none⟩ = some (.int .i64 0) := cell_later hb (by go_simp)
        have jd1 : wt5.frozen? ⟨wt4.heap.size, 1, none⟩ = false := by rw [(bcell hb).2 _ _ (by first | omega | (simp <;> omega))]; go_simp
        have kd2 : wt5.cell? ⟨wt4.heap.size, 2, none⟩ = some (.int .i64 0) := cell_later hb (by go_simp)
        have jd2 : wt5.frozen? ⟨wt4.heap.size, 2, none⟩ = false := by rw [(bcell hb).2 _ _ (by first | omega | (simp <;> omega))]; go_simp
        have kd3 : wt5.cell? ⟨wt4.heap.size, 3, none⟩ = some (.int .i64 0) := cell_later hb (by go_simp)
        have jd3 : wt5.frozen? ⟨wt4.heap.size, 3, none⟩ = false := by rw [(bcell hb).2 _ _ (by first | omega | (simp <;> omega))]; go_simp
        replace zm : w.heap.size < wt5.heap.size := World.block_lt_of_cell? _ _ km0
        have zm_wt5 := zm
        replace zn : w.heap.size + 1 < wt5.heap.size := World.block_lt_of_cell? _ _ kn0
        have zn_wt5 := zn
        replace zp : w.heap.size + 1 + 1 < wt5.heap.size := World.block_lt_of_cell? _ _ kp0
        have zp_wt5 := zp
        replace zc : w3.heap.size < wt5.heap.size := World.block_lt_of_cell? _ _ kc0
        have zc_wt5 := zc
        have zd : wt4.heap.size < wt5.heap.size := World.block_lt_of_cell? _ _ kd0
        have zd_wt5 := zd
        replace hb0 : Below w.heap.size w wt5 := (by repeat (first | with_reducible exact Below.refl _ _ | with_reducible assumption | with_reducible refine Below.setCell ?_ (by first | omega | (simp <;> omega)) _ | with_reducible refine balloc ?_ _ | with_reducible refine Below.drew ?_ | with_reducible refine bstep ?_ (by with_reducible assumption)))
        have hs_wt5 := hb.size; (try simp only [World.size_alloc, World.size_setCell] at hs_wt5)
        clear hb
        (try go_wp2_with fail)
        refine hKK.out _ _ (by first | (go_keep; done) | ((repeat' apply And.intro) <;> go_simp)) (fun hHeld => ?_)
        clear hKK KK
        try simp only [Act.put, List.setIfInBounds_toArray, List.set_cons_zero, List.set_cons_succ]
        refine wpAnyH_take (i := 3) (oi := ⟨some 48, _, _, _, _, _⟩) (v := ?_) rfl (by kernel_rfl) (by kernel_rfl) (by kernel_rfl) (fun _ _ _ h => h) (Or.inl ⟨by rfl, ?_⟩) (by assumption) ?_
        rotate_left
        · intro w hSw; (try dsimp only at hSw); go_simp; try with_reducible rfl
        try simp only [Act.put, List.setIfInBounds_toArray, List.set_cons_zero, List.set_cons_succ]
        refine wpAnyH_take (i := 4) (oi := ⟨some 52, _, _, _, _, _⟩) (v := ?_) rfl (by kernel_rfl) (by kernel_rfl) (by kernel_rfl) (fun _ _ _ h => h) (Or.inl ⟨by rfl, ?_⟩) (by assumption) ?_
        rotate_left
        · intro w hSw; (try dsimp only at hSw); go_simp; try with_reducible rfl
        try simp only [Act.put, List.setIfInBounds_toArray, List.set_cons_zero, List.set_cons_succ]
        refine wpAnyH_take (i := 5) (oi := ⟨some 53, _, _, _, _, _⟩) (v := ?_) rfl (by kernel_rfl) (by kernel_rfl) (by kernel_rfl) (fun _ _ _ h => h) (Or.inl ⟨by rfl, ?_⟩) (by assumption) ?_
        rotate_left
        · intro w hSw; (try dsimp only at hSw); go_simp; try with_reducible rfl
        try simp only [Act.put, List.setIfInBounds_toArray, List.set_cons_zero, List.set_cons_succ]
        refine wpAnyH_ready (rs := [7]) (by kernel_rfl) (by simp) ?_
        refine AllReadyH.cons (o := ⟨none, _, _, _, _, _⟩) rfl (fun KK hKK => ?_) AllReadyH.nil
        go_simp
        (try go_wp2_with fail)
        refine hKK.out _ _ (by first | (go_keep; done) | ((repeat' apply And.intro) <;> go_simp)) (fun hHeld => ?_)
        clear hKK KK
        try simp only [Act.put, List.setIfInBounds_toArray, List.set_cons_zero, List.set_cons_succ]
        refine wpAnyH_take (i := 8) (oi := ⟨some 11, _, _, _, _, _⟩) (v := ?_) rfl (by kernel_rfl) (by kernel_rfl) (by kernel_rfl) (fun _ _ _ h => h) (Or.inl ⟨by rfl, ?_⟩) (by assumption) ?_
        rotate_left
        · intro w hSw; (try dsimp only at hSw); go_simp; try with_reducible rfl
        try simp only [Act.put, List.setIfInBounds_toArray, List.set_cons_zero, List.set_cons_succ]
        refine wpAnyH_done (by kernel_rfl) ?_ _
        (try dsimp only [Exit.then, Met])
        go_wp2_with fail
        go_meet
        refine ⟨_, rfl, rfl, by first | omega | (simp; omega), ?_, ?_, ?_, ?_, ?_, ?_, ?_, ?_, ?_, ?_, ?_, ?_, ?_, ?_, ?_, ?_, ?_, ?_, ?_, ?_, ?_, ?_, ?_, ?_, (by repeat (first | with_reducible exact Below.refl _ _ | with_reducible assumption | with_reducible refine Below.setCell ?_ (by first | omega | (simp <;> omega)) _ | with_reducible refine balloc ?_ _ | with_reducible refine Below.drew ?_ | with_reducible refine bstep ?_ (by with_reducible assumption)))⟩
        all_goals first | (with_reducible assumption) | go_simp
    · go_simp
      (try go_wp2_with fail)
      refine hKK.out _ _ (by first | (go_keep; done) | ((repeat' apply And.intro) <;> go_simp)) (fun hHeld => ?_)
      clear hKK KK
      try simp only [Act.put, List.setIfInBounds_toArray, List.set_cons_zero, List.set_cons_succ]
      refine wpAnyH_ready (rs := [1]) (by kernel_rfl) (by simp) ?_
      refine AllReadyH.cons (o := ⟨some 50, _, _, _, _, _⟩) rfl (fun KK hKK => ?_) AllReadyH.nil
      go_simp
      refine Calls.mono (box_c 0 10 0 20 _) ?_
      rintro e wt4 ⟨rfl, hb⟩
      replace km0 := cell_later hb (cell_al _ (cell_al _ km0))
      replace km1 := cell_later hb (cell_al _ (cell_al _ km1))
      replace km2 := cell_later hb (cell_al _ (cell_al _ km2))
      replace km3 := cell_later hb (cell_al _ (cell_al _ km3))
      replace km4 := cell_later hb (cell_al _ (cell_al _ km4))
      replace km5 := cell_later hb (cell_al _ (cell_al _ km5))
      replace km6 := cell_later hb (cell_al _ (cell_al _ km6))
      replace kn0 := cell_later hb (cell_al _ (cell_al _ kn0))
      replace kn1 := cell_later hb (cell_al _ (cell_al _ kn1))
      replace kn2 := cell_later hb (cell_al _ (cell_al _ kn2))
      replace kn3 := cell_later hb (cell_al _ (cell_al _ kn3))
      replace kn4 := cell_later hb (cell_al _ (cell_al _ kn4))
      replace kn5 := cell_later hb (cell_al _ (cell_al _ kn5))
      replace kn6 := cell_later hb (cell_al _ (cell_al _ kn6))
      replace kp0 := cell_later hb (cell_al _ (cell_al _ kp0))
      replace kp1 := cell_later hb (cell_al _ (cell_al _ kp1))
      have kc0 : wt4.cell? ⟨w3.heap.size, 0, none⟩ = some (.int .i64 5) := cell_later hb (by go_simp)
      have kc1 : wt4.cell? ⟨w3.heap.size, 1, none⟩ = some (.int .i64 7) := cell_later hb (by go_simp)
      have kc2 : wt4.cell? ⟨w3.heap.size, 2, none⟩ = some (.int .i64 2) := cell_later hb (by go_simp)
      have kc3 : wt4.cell? ⟨w3.heap.size, 3, none⟩ = some (.int .i64 4) := cell_later hb (by go_simp)
      have kd0 : wt4.cell? ⟨w3.heap.size + 1, 0, none⟩ = some (.int .i64 0) := cell_later hb (by go_simp)
      have jd0 : wt4.frozen? ⟨w3.heap.size + 1, 0, none⟩ = false := by rw [(bcell hb).2 _ _ (by first | omega | (simp <;> omega))]; go_simp
      have kd1 : wt4.cell? ⟨w3.heap.size + 1, 1, none⟩ = some (.int .i64 0) := cell_later hb (by go_simp)
      have jd1 : wt4.frozen? ⟨w3.heap.size + 1, 1, none⟩ = false := by rw [(bcell hb).2 _ _ (by first | omega | (simp <;> omega))]; go_simp
      have kd2 : wt4.cell? ⟨w3.heap.size + 1, 2, none⟩ = some (.int .i64 0) := cell_later hb (by go_simp)
      have jd2 : wt4.frozen? ⟨w3.heap.size + 1, 2, none⟩ = false := by rw [(bcell hb).2 _ _ (by first | omega | (simp <;> omega))]; go_simp
      have kd3 : wt4.cell? ⟨w3.heap.size + 1, 3, none⟩ = some (.int .i64 0) := cell_later hb (by go_simp)
      have jd3 : wt4.frozen? ⟨w3.heap.size + 1, 3, none⟩ = false := by rw [(bcell hb).2 _ _ (by first | omega | (simp <;> omega))]; go_simp
      replace zm : w.heap.size < wt4.heap.size := World.block_lt_of_cell? _ _ km0
      have zm_wt4 := zm
      replace zn : w.heap.size + 1 < wt4.heap.size := World.block_lt_of_cell? _ _ kn0
      have zn_wt4 := zn
      replace zp : w.heap.size + 1 + 1 < wt4.heap.size := World.block_lt_of_cell? _ _ kp0
      have zp_wt4 := zp
      have zc : w3.heap.size < wt4.heap.size := World.block_lt_of_cell? _ _ kc0
      have zc_wt4 := zc
      have zd : w3.heap.size + 1 < wt4.heap.size := World.block_lt_of_cell? _ _ kd0
      have zd_wt4 := zd
      replace hb0 : Below w.heap.size w wt4 := (by repeat (first | with_reducible exact Below.refl _ _ | with_reducible assumption | with_reducible refine Below.setCell ?_ (by first | omega | (simp <;> omega)) _ | with_reducible refine balloc ?_ _ | with_reducible refine Below.drew ?_ | with_reducible refine bstep ?_ (by with_reducible assumption)))
      have hs_wt4 := hb.size; (try simp only [World.size_alloc, World.size_setCell] at hs_wt4)
      clear hb
      (try go_wp2_with fail)
      refine hKK.out _ _ (by first | (go_keep; done) | ((repeat' apply And.intro) <;> go_simp)) (fun hHeld => ?_)
      clear hKK KK
      try simp only [Act.put, List.setIfInBounds_toArray, List.set_cons_zero, List.set_cons_succ]
      refine wpAnyH_ready (rs := [2]) (by kernel_rfl) (by simp) ?_
      refine AllReadyH.cons (o := ⟨some 51, _, _, _, _, _⟩) rfl (fun KK hKK => ?_) AllReadyH.nil
      go_simp
      refine Calls.mono (ex3 _) ?_
      rintro e wt5 ⟨rfl, hb⟩
      replace km0 := cell_later hb km0
      replace km1 := cell_later hb km1
      replace km2 := cell_later hb km2
      replace km3 := cell_later hb km3
      replace km4 := cell_later hb km4
      replace km5 := cell_later hb km5
      replace km6 := cell_later hb km6
      replace kn0 := cell_later hb kn0
      replace kn1 := cell_later hb kn1
      replace kn2 := cell_later hb kn2
      replace kn3 := cell_later hb kn3
      replace kn4 := cell_later hb kn4
      replace kn5 := cell_later hb kn5
      replace kn6 := cell_later hb kn6
      replace kp0 := cell_later hb kp0
      replace kp1 := cell_later hb kp1
      replace kc0 := cell_later hb kc0
      replace kc1 := cell_later hb kc1
      replace kc2 := cell_later hb kc2
      replace kc3 := cell_later hb kc3
      replace jd0 := fro_later hb kd0 jd0
      replace kd0 := cell_later hb kd0
      replace jd1 := fro_later hb kd1 jd1
      replace kd1 := cell_later hb kd1
      replace jd2 := fro_later hb kd2 jd2
      replace kd2 := cell_later hb kd2
      replace jd3 := fro_later hb kd3 jd3
      replace kd3 := cell_later hb kd3
      replace zm : w.heap.size < wt5.heap.size := World.block_lt_of_cell? _ _ km0
      have zm_wt5 := zm
      replace zn : w.heap.size + 1 < wt5.heap.size := World.block_lt_of_cell? _ _ kn0
      have zn_wt5 := zn
      replace zp : w.heap.size + 1 + 1 < wt5.heap.size := World.block_lt_of_cell? _ _ kp0
      have zp_wt5 := zp
      replace zc : w3.heap.size < wt5.heap.size := World.block_lt_of_cell? _ _ kc0
      have zc_wt5 := zc
      replace zd : w3.heap.size + 1 < wt5.heap.size := World.block_lt_of_cell? _ _ kd0
      have zd_wt5 := zd
      replace hb0 : Below w.heap.size w wt5 := (by repeat (first | with_reducible exact Below.refl _ _ | with_reducible assumption | with_reducible refine Below.setCell ?_ (by first | omega | (simp <;> omega)) _ | with_reducible refine balloc ?_ _ | with_reducible refine Below.drew ?_ | with_reducible refine bstep ?_ (by with_reducible assumption)))
      have hs_wt5 : wt4.heap.size ≤ wt5.heap.size := hb.size
      clear hb
      (try go_wp2_with fail)
      refine hKK.out _ _ (by first | (go_keep; done) | ((repeat' apply And.intro) <;> go_simp)) (fun hHeld => ?_)
      clear hKK KK
      try simp only [Act.put, List.setIfInBounds_toArray, List.set_cons_zero, List.set_cons_succ]
      refine wpAnyH_take (i := 3) (oi := ⟨some 48, _, _, _, _, _⟩) (v := ?_) rfl (by kernel_rfl) (by kernel_rfl) (by kernel_rfl) (fun _ _ _ h => h) (Or.inl ⟨by rfl, ?_⟩) (by assumption) ?_
      rotate_left
      · intro w hSw; (try dsimp only at hSw); go_simp; try with_reducible rfl
      try simp only [Act.put, List.setIfInBounds_toArray, List.set_cons_zero, List.set_cons_succ]
      refine wpAnyH_take (i := 4) (oi := ⟨some 52, _, _, _, _, _⟩) (v := ?_) rfl (by kernel_rfl) (by kernel_rfl) (by kernel_rfl) (fun _ _ _ h => h) (Or.inl ⟨by rfl, ?_⟩) (by assumption) ?_
      rotate_left
      · intro w hSw; (try dsimp only at hSw); go_simp; try with_reducible rfl
      try simp only [Act.put, List.setIfInBounds_toArray, List.set_cons_zero, List.set_cons_succ]
      refine wpAnyH_take (i := 5) (oi := ⟨some 53, _, _, _, _, _⟩) (v := ?_) rfl (by kernel_rfl) (by kernel_rfl) (by kernel_rfl) (fun _ _ _ h => h) (Or.inl ⟨by rfl, ?_⟩) (by assumption) ?_
      rotate_left
      · intro w hSw; (try dsimp only at hSw); go_simp; try with_reducible rfl
      try simp only [Act.put, List.setIfInBounds_toArray, List.set_cons_zero, List.set_cons_succ]
      refine wpAnyH_ready (rs := [7]) (by kernel_rfl) (by simp) ?_
      refine AllReadyH.cons (o := ⟨none, _, _, _, _, _⟩) rfl (fun KK hKK => ?_) AllReadyH.nil
      go_simp
      (try go_wp2_with fail)
      refine hKK.out _ _ (by first | (go_keep; done) | ((repeat' apply And.intro) <;> go_simp)) (fun hHeld => ?_)
      clear hKK KK
      try simp only [Act.put, List.setIfInBounds_toArray, List.set_cons_zero, List.set_cons_succ]
      refine wpAnyH_take (i := 8) (oi := ⟨some 11, _, _, _, _, _⟩) (v := ?_) rfl (by kernel_rfl) (by kernel_rfl) (by kernel_rfl) (fun _ _ _ h => h) (Or.inl ⟨by rfl, ?_⟩) (by assumption) ?_
      rotate_left
      · intro w hSw; (try dsimp only at hSw); go_simp; try with_reducible rfl
      try simp only [Act.put, List.setIfInBounds_toArray, List.set_cons_zero, List.set_cons_succ]
      refine wpAnyH_done (by kernel_rfl) ?_ _
      (try dsimp only [Exit.then, Met])
      go_wp2_with fail
      go_meet
      refine ⟨_, rfl, rfl, by first | omega | (simp; omega), ?_, ?_, ?_, ?_, ?_, ?_, ?_, ?_, ?_, ?_, ?_, ?_, ?_, ?_, ?_, ?_, ?_, ?_, ?_, ?_, ?_, ?_, ?_, ?_, (by repeat (first | with_reducible exact Below.refl _ _ | with_reducible assumption | with_reducible refine Below.setCell ?_ (by first | omega | (simp <;> omega)) _ | with_reducible refine balloc ?_ _ | with_reducible refine Below.drew ?_ | with_reducible refine bstep ?_ (by with_reducible assumption)))⟩
      all_goals first | (with_reducible assumption) | go_simp
  case rest =>
    rename World => wca
    obtain ⟨gd, rfl, rfl, lgd, kd0, kd1, kd2, kd3, km0, km1, km2, km3, km4, km5, km6, kn0, kn1, kn2, kn3, kn4, kn5, kn6, kp0, kp1, kc0, kc1, kc2, kc3, hb0⟩ := hcut
    have zd : gd < wca.heap.size := World.block_lt_of_cell? _ _ kd0
    have zd_wca := zd
    have zm : w.heap.size < wca.heap.size := World.block_lt_of_cell? _ _ km0
    have zm_wca := zm
    have zn : w.heap.size + 1 < wca.heap.size := World.block_lt_of_cell? _ _ kn0
    have zn_wca := zn
    have zp : w.heap.size + 1 + 1 < wca.heap.size := World.block_lt_of_cell? _ _ kp0
    have zp_wca := zp
    have zc : w3.heap.size < wca.heap.size := World.block_lt_of_cell? _ _ kc0
    have zc_wca := zc
    go_upto_region 8 with fail
    go_cut [12, 13] (fun s12 s13 wx => ∃ gi : Nat, s12 = .pointer (some ⟨gi, 0, none⟩) ∧ s13 = (.int .i64 0) ∧ wca.heap.size ≤ gi ∧ wx.cell? ⟨gi, 0, none⟩ = some (.int .i64 2) ∧ wx.cell? ⟨gi, 1, none⟩ = some (.int .i64 4) ∧ wx.cell? ⟨gi, 2, none⟩ = some (.int .i64 3) ∧ wx.cell? ⟨gi, 3, none⟩ = some (.int .i64 5) ∧ wx.cell? ⟨gd, 0, none⟩ = some (.int .i64 (-11)) ∧ wx.cell? ⟨gd, 1, none⟩ = some (.int .i64 11) ∧ wx.cell? ⟨gd, 2, none⟩ = some (.int .i64 (-1)) ∧ wx.cell? ⟨gd, 3, none⟩ = some (.int .i64 11) ∧ wx.cell? ⟨w.heap.size, 0, none⟩ = some (.int .i64 0) ∧ wx.cell? ⟨w.heap.size, 1, none⟩ = some (.int .i64 (-1000000)) ∧ wx.cell? ⟨w.heap.size, 2, none⟩ = some (.int .i64 10) ∧ wx.cell? ⟨w.heap.size, 3, none⟩ = some (.int .i64 1000000) ∧ wx.cell? ⟨w.heap.size, 4, none⟩ = some (.int .i64 0) ∧ wx.cell? ⟨w.heap.size, 5, none⟩ = some (.int .i64 0) ∧ wx.cell? ⟨w.heap.size, 6, none⟩ = some (.int .i64 1) ∧ wx.cell? ⟨w.heap.size + 1, 0, none⟩ = some (.int .i64 1000000) ∧ wx.cell? ⟨w.heap.size + 1, 1, none⟩ = some (.int .i64 0) ∧ wx.cell? ⟨w.heap.size + 1, 2, none⟩ = some (.int .i64 5) ∧ wx.cell? ⟨w.heap.size + 1, 3, none⟩ = some (.int .i64 0) ∧ wx.cell? ⟨w.heap.size + 1, 4, none⟩ = some (.int .i64 1000000) ∧ wx.cell? ⟨w.heap.size + 1, 5, none⟩ = some (.int .i64 5) ∧ wx.cell? ⟨w.heap.size + 1, 6, none⟩ = some (.int .i64 0) ∧ wx.cell? ⟨w.heap.size + 1 + 1, 0, none⟩ = some (.int .i64 3) ∧ wx.cell? ⟨w.heap.size + 1 + 1, 1, none⟩ = some (.int .i64 4) ∧ wx.cell? ⟨w3.heap.size, 0, none⟩ = some (.int .i64 5) ∧ wx.cell? ⟨w3.heap.size, 1, none⟩ = some (.int .i64 7) ∧ wx.cell? ⟨w3.heap.size, 2, none⟩ = some (.int .i64 2) ∧ wx.cell? ⟨w3.heap.size, 3, none⟩ = some (.int .i64 4) ∧ Below w.heap.size w wx)
    case first =>
      refine wp_region_held_drew (S := fun w' => w'.cell? ⟨w.heap.size, 0, none⟩ = some (.int .i64 0) ∧ w'.cell? ⟨w.heap.size, 1, none⟩ = some (.int .i64 (-1000000)) ∧ w'.cell? ⟨w.heap.size, 2, none⟩ = some (.int .i64 10) ∧ w'.cell? ⟨w.heap.size, 3, none⟩ = some (.int .i64 1000000) ∧ w'.cell? ⟨w.heap.size, 4, none⟩ = some (.int .i64 0) ∧ w'.cell? ⟨w.heap.size, 5, none⟩ = some (.int .i64 0) ∧ w'.cell? ⟨w.heap.size, 6, none⟩ = some (.int .i64 1)) (by kernel_rfl) (by first | (go_keep; done) | ((repeat' apply And.intro) <;> go_simp)) (fun hHeld => ?_)
      refine wpAnyH_take (i := 0) (oi := ⟨some 55, _, _, _, _, _⟩) (v := ?_) rfl (by kernel_rfl) (by kernel_rfl) (by kernel_rfl) (fun _ _ _ h => h) (Or.inl ⟨by rfl, ?_⟩) (by assumption) ?_
      rotate_left
      · intro w hSw; (try dsimp only at hSw); go_simp; try with_reducible rfl
      try simp only [Act.put, List.setIfInBounds_toArray, List.set_cons_zero, List.set_cons_succ]
      refine wpAnyH_ready (rs := [1, 6]) (by kernel_rfl) (by simp) ?_
      refine AllReadyH.cons (o := ⟨some 56, _, _, _, _, _⟩) rfl (fun KK hKK => ?_) (AllReadyH.cons (o := ⟨some 12, _, _, _, _, _⟩) rfl (fun KK hKK => ?_) AllReadyH.nil)
      · go_simp
        refine Calls.mono (box_c 6 6 3 3 _) ?_
        rintro e wt4 ⟨rfl, hb⟩
        replace kd0 := cell_later hb kd0
        replace kd1 := cell_later hb kd1
        replace kd2 := cell_later hb kd2
        replace kd3 := cell_later hb kd3
        replace km0 := cell_later hb km0
        replace km1 := cell_later hb km1
        replace km2 := cell_later hb km2
        replace km3 := cell_later hb km3
        replace km4 := cell_later hb km4
        replace km5 := cell_later hb km5
        replace km6 := cell_later hb km6
        replace kn0 := cell_later hb kn0
        replace kn1 := cell_later hb kn1
        replace kn2 := cell_later hb kn2
        replace kn3 := cell_later hb kn3
        replace kn4 := cell_later hb kn4
        replace kn5 := cell_later hb kn5
        replace kn6 := cell_later hb kn6
        replace kp0 := cell_later hb kp0
        replace kp1 := cell_later hb kp1
        replace kc0 := cell_later hb kc0
        replace kc1 := cell_later hb kc1
        replace kc2 := cell_later hb kc2
        replace kc3 := cell_later hb kc3
        replace zd : gd < wt4.heap.size := World.block_lt_of_cell? _ _ kd0
        have zd_wt4 := zd
        replace zm : w.heap.size < wt4.heap.size := World.block_lt_of_cell? _ _ km0
        have zm_wt4 := zm
        replace zn : w.heap.size + 1 < wt4.heap.size := World.block_lt_of_cell? _ _ kn0
        have zn_wt4 := zn
        replace zp : w.heap.size + 1 + 1 < wt4.heap.size := World.block_lt_of_cell? _ _ kp0
        have zp_wt4 := zp
        replace zc : w3.heap.size < wt4.heap.size := World.block_lt_of_cell? _ _ kc0
        have zc_wt4 := zc
        replace hb0 : Below w.heap.size w wt4 := (by repeat (first | with_reducible exact Below.refl _ _ | with_reducible assumption | with_reducible refine Below.setCell ?_ (by first | omega | (simp <;> omega)) _ | with_reducible refine balloc ?_ _ | with_reducible refine Below.drew ?_ | with_reducible refine bstep ?_ (by with_reducible assumption)))
        have hs_wt4 : wca.heap.size ≤ wt4.heap.size := hb.size
        clear hb
        (try go_wp2_with fail)
        refine hKK.out _ _ (by first | (go_keep; done) | ((repeat' apply And.intro) <;> go_simp)) (fun hHeld => ?_)
        clear hKK KK
        try simp only [Act.put, List.setIfInBounds_toArray, List.set_cons_zero, List.set_cons_succ]
        refine wpAnyH_ready (rs := [2, 6]) (by kernel_rfl) (by simp) ?_
        refine AllReadyH.cons (o := ⟨some 57, _, _, _, _, _⟩) rfl (fun KK hKK => ?_) (AllReadyH.cons (o := ⟨some 12, _, _, _, _, _⟩) rfl (fun KK hKK => ?_) AllReadyH.nil)
        · go_simp
          refine Calls.mono (ex4 _) ?_
          rintro e wt5 ⟨rfl, hb⟩
          replace kd0 := cell_later hb kd0
          replace kd1 := cell_later hb kd1
          replace kd2 := cell_later hb kd2
          replace kd3 := cell_later hb kd3
          replace km0 := cell_later hb km0
          replace km1 := cell_later hb km1
          replace km2 := cell_later hb km2
          replace km3 := cell_later hb km3
          replace km4 := cell_later hb km4
          replace km5 := cell_later hb km5
          replace km6 := cell_later hb km6
          replace kn0 := cell_later hb kn0
          replace kn1 := cell_later hb kn1
          replace kn2 := cell_later hb kn2
          replace kn3 := cell_later hb kn3
          replace kn4 := cell_later hb kn4
          replace kn5 := cell_later hb kn5
          replace kn6 := cell_later hb kn6
          replace kp0 := cell_later hb kp0
          replace kp1 := cell_later hb kp1
          replace kc0 := cell_later hb kc0
          replace kc1 := cell_later hb kc1
          replace kc2 := cell_later hb kc2
          replace kc3 := cell_later hb kc3
          replace zd : gd < wt5.heap.size := World.block_lt_of_cell? _ _ kd0
          have zd_wt5 := zd
          replace zm : w.heap.size < wt5.heap.size := World.block_lt_of_cell? _ _ km0
          have zm_wt5 := zm
          replace zn : w.heap.size + 1 < wt5.heap.size := World.block_lt_of_cell? _ _ kn0
          have zn_wt5 := zn
          replace zp : w.heap.size + 1 + 1 < wt5.heap.size := World.block_lt_of_cell? _ _ kp0
          have zp_wt5 := zp
          replace zc : w3.heap.size < wt5.heap.size := World.block_lt_of_cell? _ _ kc0
          have zc_wt5 := zc
          replace hb0 : Below w.heap.size w wt5 := (by repeat (first | with_reducible exact Below.refl _ _ | with_reducible assumption | with_reducible refine Below.setCell ?_ (by first | omega | (simp <;> omega)) _ | with_reducible refine balloc ?_ _ | with_reducible refine Below.drew ?_ | with_reducible refine bstep ?_ (by with_reducible assumption)))
          have hs_wt5 : wt4.heap.size ≤ wt5.heap.size := hb.size
          clear hb
          (try go_wp2_with fail)
          refine hKK.out _ _ (by first | (go_keep; done) | ((repeat' apply And.intro) <;> go_simp)) (fun hHeld => ?_)
          clear hKK KK
          try simp only [Act.put, List.setIfInBounds_toArray, List.set_cons_zero, List.set_cons_succ]
          refine wpAnyH_take (i := 3) (oi := ⟨some 54, _, _, _, _, _⟩) (v := ?_) rfl (by kernel_rfl) (by kernel_rfl) (by kernel_rfl) (fun _ _ _ h => h) (Or.inl ⟨by rfl, ?_⟩) (by assumption) ?_
          rotate_left
          · intro w hSw; (try dsimp only at hSw); go_simp; try with_reducible rfl
          try simp only [Act.put, List.setIfInBounds_toArray, List.set_cons_zero, List.set_cons_succ]
          refine wpAnyH_take (i := 4) (oi := ⟨some 58, _, _, _, _, _⟩) (v := ?_) rfl (by kernel_rfl) (by kernel_rfl) (by kernel_rfl) (fun _ _ _ h => h) (Or.inl ⟨by rfl, ?_⟩) (by assumption) ?_
          rotate_left
          · intro w hSw; (try dsimp only at hSw); go_simp; try with_reducible rfl
          try simp only [Act.put, List.setIfInBounds_toArray, List.set_cons_zero, List.set_cons_succ]
          refine wpAnyH_take (i := 5) (oi := ⟨some 59, _, _, _, _, _⟩) (v := ?_) rfl (by kernel_rfl) (by kernel_rfl) (by kernel_rfl) (fun _ _ _ h => h) (Or.inl ⟨by rfl, ?_⟩) (by assumption) ?_
          rotate_left
          · intro w hSw; (try dsimp only at hSw); go_simp; try with_reducible rfl
          try simp only [Act.put, List.setIfInBounds_toArray, List.set_cons_zero, List.set_cons_succ]
          refine wpAnyH_ready (rs := [6]) (by kernel_rfl) (by simp) ?_
          refine AllReadyH.cons (o := ⟨some 12, _, _, _, _, _⟩) rfl (fun KK hKK => ?_) AllReadyH.nil
          go_simp
          (try go_wp2_with fail)
          refine hKK.out _ _ (by first | (go_keep; done) | ((repeat' apply And.intro) <;> go_simp)) (fun hHeld => ?_)
          clear hKK KK
          try simp only [Act.put, List.setIfInBounds_toArray, List.set_cons_zero, List.set_cons_succ]
          refine wpAnyH_ready (rs := [7]) (by kernel_rfl) (by simp) ?_
          refine AllReadyH.cons (o := ⟨none, _, _, _, _, _⟩) rfl (fun KK hKK => ?_) AllReadyH.nil
          go_simp
          (try go_wp2_with fail)
          refine hKK.out _ _ (by first | (go_keep; done) | ((repeat' apply And.intro) <;> go_simp)) (fun hHeld => ?_)
          clear hKK KK
          try simp only [Act.put, List.setIfInBounds_toArray, List.set_cons_zero, List.set_cons_succ]
          refine wpAnyH_take (i := 8) (oi := ⟨some 13, _, _, _, _, _⟩) (v := ?_) rfl (by kernel_rfl) (by kernel_rfl) (by kernel_rfl) (fun _ _ _ h => h) (Or.inl ⟨by rfl, ?_⟩) (by assumption) ?_
          rotate_left
          · intro w hSw; (try dsimp only at hSw); go_simp; try with_reducible rfl
          try simp only [Act.put, List.setIfInBounds_toArray, List.set_cons_zero, List.set_cons_succ]
          refine wpAnyH_done (by kernel_rfl) ?_ _
          (try dsimp only [Exit.then, Met])
          go_wp2_with fail
          go_meet
          refine ⟨_, rfl, rfl, by first | omega | (simp; omega), ?_, ?_, ?_, ?_, ?_, ?_, ?_, ?_, ?_, ?_, ?_, ?_, ?_, ?_, ?_, ?_, ?_, ?_, ?_, ?_, ?_, ?_, ?_, ?_, ?_, ?_, ?_, ?_, (by repeat (first | with_reducible exact Below.refl _ _ | with_reducible assumption | with_reducible refine Below.setCell ?_ (by first | omega | (simp <;> omega)) _ | with_reducible refine balloc ?_ _ | with_reducible refine Below.drew ?_ | with_reducible refine bstep ?_ (by with_reducible assumption)))⟩
          all_goals first | (with_reducible assumption) | go_simp
        · go_simp
          (try go_wp2_with fail)
          refine hKK.out _ _ (by first | (go_keep; done) | ((repeat' apply And.intro) <;> go_simp)) (fun hHeld => ?_)
          clear hKK KK
          try simp only [Act.put, List.setIfInBounds_toArray, List.set_cons_zero, List.set_cons_succ]
          refine wpAnyH_ready (rs := [2]) (by kernel_rfl) (by simp) ?_
          refine AllReadyH.cons (o := ⟨some 57, _, _, _, _, _⟩) rfl (fun KK hKK => ?_) AllReadyH.nil
          go_simp
          refine Calls.mono (ex4 _) ?_
          rintro e wt5 ⟨rfl, hb⟩
          replace kd0 := cell_later hb (cell_al _ kd0)
          replace kd1 := cell_later hb (cell_al _ kd1)
          replace kd2 := cell_later hb (cell_al _ kd2)
          replace kd3 := cell_later hb (cell_al _ kd3)
          replace km0 := cell_later hb (cell_al _ km0)
          replace km1 := cell_later hb (cell_al _ km1)
          replace km2 := cell_later hb (cell_al _ km2)
          replace km3 := cell_later hb (cell_al _ km3)
          replace km4 := cell_later hb (cell_al _ km4)
          replace km5 := cell_later hb (cell_al _ km5)
          replace km6 := cell_later hb (cell_al _ km6)
          replace kn0 := cell_later hb (cell_al _ kn0)
          replace kn1 := cell_later hb (cell_al _ kn1)
          replace kn2 := cell_later hb (cell_al _ kn2)
          replace kn3 := cell_later hb (cell_al _ kn3)
          replace kn4 := cell_later hb (cell_al _ kn4)
          replace kn5 := cell_later hb (cell_al _ kn5)
          replace kn6 := cell_later hb (cell_al _ kn6)
          replace kp0 := cell_later hb (cell_al _ kp0)
          replace kp1 := cell_later hb (cell_al _ kp1)
          replace kc0 := cell_later hb (cell_al _ kc0)
          replace kc1 := cell_later hb (cell_al _ kc1)
          replace kc2 := cell_later hb (cell_al _ kc2)
          replace kc3 := cell_later hb (cell_al _ kc3)
          have ki0 : wt5.cell? ⟨wt4.heap.size, 0, none⟩ = some (.int .i64 0) := cell_later hb (by go_simp)
          have ji0 : wt5.frozen? ⟨wt4.heap.size, 0, none⟩ = false := by rw [(bcell hb).2 _ _ (by first | omega | (simp <;> omega))]; go_simp
          have ki1 : wt5.cell? ⟨wt4.heap.size, 1, none⟩ = some (.int .i64 0) := cell_later hb (by go_simp)
          have ji1 : wt5.frozen? ⟨wt4.heap.size, 1, none⟩ = false := by rw [(bcell hb).2 _ _ (by first | omega | (simp <;> omega))]; go_simp
          have ki2 : wt5.cell? ⟨wt4.heap.size, 2, none⟩ = some (.int .i64 0) := cell_later hb (by go_simp)
          have ji2 : wt5.frozen? ⟨wt4.heap.size, 2, none⟩ = false := by rw [(bcell hb).2 _ _ (by first | omega | (simp <;> omega))]; go_simp
          have ki3 : wt5.cell? ⟨wt4.heap.size, 3, none⟩ = some (.int .i64 0) := cell_later hb (by go_simp)
          have ji3 : wt5.frozen? ⟨wt4.heap.size, 3, none⟩ = false := by rw [(bcell hb).2 _ _ (by first | omega | (simp <;> omega))]; go_simp
          replace zd : gd < wt5.heap.size := World.block_lt_of_cell? _ _ kd0
          have zd_wt5 := zd
          replace zm : w.heap.size < wt5.heap.size := World.block_lt_of_cell? _ _ km0
          have zm_wt5 := zm
          replace zn : w.heap.size + 1 < wt5.heap.size := World.block_lt_of_cell? _ _ kn0
          have zn_wt5 := zn
          replace zp : w.heap.size + 1 + 1 < wt5.heap.size := World.block_lt_of_cell? _ _ kp0
          have zp_wt5 := zp
          replace zc : w3.heap.size < wt5.heap.size := World.block_lt_of_cell? _ _ kc0
          have zc_wt5 := zc
          have zi : wt4.heap.size < wt5.heap.size := World.block_lt_of_cell? _ _ ki0
          have zi_wt5 := zi
          replace hb0 : Below w.heap.size w wt5 := (by repeat (first | with_reducible exact Below.refl _ _ | with_reducible assumption | with_reducible refine Below.setCell ?_ (by first | omega | (simp <;> omega)) _ | with_reducible refine balloc ?_ _ | with_reducible refine Below.drew ?_ | with_reducible refine bstep ?_ (by with_reducible assumption)))
          have hs_wt5 := hb.size; (try simp only [World.size_alloc, World.size_setCell] at hs_wt5)
          clear hb
          (try go_wp2_with fail)
          refine hKK.out _ _ (by first | (go_keep; done) | ((repeat' apply And.intro) <;> go_simp)) (fun hHeld => ?_)
          clear hKK KK
          try simp only [Act.put, List.setIfInBounds_toArray, List.set_cons_zero, List.set_cons_succ]
          refine wpAnyH_take (i := 3) (oi := ⟨some 54, _, _, _, _, _⟩) (v := ?_) rfl (by kernel_rfl) (by kernel_rfl) (by kernel_rfl) (fun _ _ _ h => h) (Or.inl ⟨by rfl, ?_⟩) (by assumption) ?_
          rotate_left
          · intro w hSw; (try dsimp only at hSw); go_simp; try with_reducible rfl
          try simp only [Act.put, List.setIfInBounds_toArray, List.set_cons_zero, List.set_cons_succ]
          refine wpAnyH_take (i := 4) (oi := ⟨some 58, _, _, _, _, _⟩) (v := ?_) rfl (by kernel_rfl) (by kernel_rfl) (by kernel_rfl) (fun _ _ _ h => h) (Or.inl ⟨by rfl, ?_⟩) (by assumption) ?_
          rotate_left
          · intro w hSw; (try dsimp only at hSw); go_simp; try with_reducible rfl
          try simp only [Act.put, List.setIfInBounds_toArray, List.set_cons_zero, List.set_cons_succ]
          refine wpAnyH_take (i := 5) (oi := ⟨some 59, _, _, _, _, _⟩) (v := ?_) rfl (by kernel_rfl) (by kernel_rfl) (by kernel_rfl) (fun _ _ _ h => h) (Or.inl ⟨by rfl, ?_⟩) (by assumption) ?_
          rotate_left
          · intro w hSw; (try dsimp only at hSw); go_simp; try with_reducible rfl
          try simp only [Act.put, List.setIfInBounds_toArray, List.set_cons_zero, List.set_cons_succ]
          refine wpAnyH_ready (rs := [7]) (by kernel_rfl) (by simp) ?_
          refine AllReadyH.cons (o := ⟨none, _, _, _, _, _⟩) rfl (fun KK hKK => ?_) AllReadyH.nil
          go_simp
          (try go_wp2_with fail)
          refine hKK.out _ _ (by first | (go_keep; done) | ((repeat' apply And.intro) <;> go_simp)) (fun hHeld => ?_)
          clear hKK KK
          try simp only [Act.put, List.setIfInBounds_toArray, List.set_cons_zero, List.set_cons_succ]
          refine wpAnyH_take (i := 8) (oi := ⟨some 13, _, _, _, _, _⟩) (v := ?_) rfl (by kernel_rfl) (by kernel_rfl) (by kernel_rfl) (fun _ _ _ h => h) (Or.inl ⟨by rfl, ?_⟩) (by assumption) ?_
          rotate_left
          · intro w hSw; (try dsimp only at hSw); go_simp; try with_reducible rfl
          try simp only [Act.put, List.setIfInBounds_toArray, List.set_cons_zero, List.set_cons_succ]
          refine wpAnyH_done (by kernel_rfl) ?_ _
          (try dsimp only [Exit.then, Met])
          go_wp2_with fail
          go_meet
          refine ⟨_, rfl, rfl, by first | omega | (simp; omega), ?_, ?_, ?_, ?_, ?_, ?_, ?_, ?_, ?_, ?_, ?_, ?_, ?_, ?_, ?_, ?_, ?_, ?_, ?_, ?_, ?_, ?_, ?_, ?_, ?_, ?_, ?_, ?_, (by repeat (first | with_reducible exact Below.refl _ _ | with_reducible assumption | with_reducible refine Below.setCell ?_ (by first | omega | (simp <;> omega)) _ | with_reducible refine balloc ?_ _ | with_reducible refine Below.drew ?_ | with_reducible refine bstep ?_ (by with_reducible assumption)))⟩
          all_goals first | (with_reducible assumption) | go_simp
      · go_simp
        (try go_wp2_with fail)
        refine hKK.out _ _ (by first | (go_keep; done) | ((repeat' apply And.intro) <;> go_simp)) (fun hHeld => ?_)
        clear hKK KK
        try simp only [Act.put, List.setIfInBounds_toArray, List.set_cons_zero, List.set_cons_succ]
        refine wpAnyH_ready (rs := [1]) (by kernel_rfl) (by simp) ?_
        refine AllReadyH.cons (o := ⟨some 56, _, _, _, _, _⟩) rfl (fun KK hKK => ?_) AllReadyH.nil
        go_simp
        refine Calls.mono (box_c 6 6 3 3 _) ?_
        rintro e wt4 ⟨rfl, hb⟩
        replace kd0 := cell_later hb (cell_al _ kd0)
        replace kd1 := cell_later hb (cell_al _ kd1)
        replace kd2 := cell_later hb (cell_al _ kd2)
        replace kd3 := cell_later hb (cell_al _ kd3)
        replace km0 := cell_later hb (cell_al _ km0)
        replace km1 := cell_later hb (cell_al _ km1)
        replace km2 := cell_later hb (cell_al _ km2)
        replace km3 := cell_later hb (cell_al _ km3)
        replace km4 := cell_later hb (cell_al _ km4)
        replace km5 := cell_later hb (cell_al _ km5)
        replace km6 := cell_later hb (cell_al _ km6)
        replace kn0 := cell_later hb (cell_al _ kn0)
        replace kn1 := cell_later hb (cell_al _ kn1)
        replace kn2 := cell_later hb (cell_al _ kn2)
        replace kn3 := cell_later hb (cell_al _ kn3)
        replace kn4 := cell_later hb (cell_al _ kn4)
        replace kn5 := cell_later hb (cell_al _ kn5)
        replace kn6 := cell_later hb (cell_al _ kn6)
        replace kp0 := cell_later hb (cell_al _ kp0)
        replace kp1 := cell_later hb (cell_al _ kp1)
        replace kc0 := cell_later hb (cell_al _ kc0)
        replace kc1 := cell_later hb (cell_al _ kc1)
        replace kc2 := cell_later hb (cell_al _ kc2)
        replace kc3 := cell_later hb (cell_al _ kc3)
        have ki0 : wt4.cell? ⟨wca.heap.size, 0, none⟩ = some (.int .i64 0) := cell_later hb (by go_simp)
        have ji0 : wt4.frozen? ⟨wca.heap.size, 0, none⟩ = false := by rw [(bcell hb).2 _ _ (by first | omega | (simp <;> omega))]; go_simp
        have ki1 : wt4.cell? ⟨wca.heap.size, 1, none⟩ = some (.int .i64 0) := cell_later hb (by go_simp)
        have ji1 : wt4.frozen? ⟨wca.heap.size, 1, none⟩ = false := by rw [(bcell hb).2 _ _ (by first | omega | (simp <;> omega))]; go_simp
        have ki2 : wt4.cell? ⟨wca.heap.size, 2, none⟩ = some (.int .i64 0) := cell_later hb (by go_simp)
        have ji2 : wt4.frozen? ⟨wca.heap.size, 2, none⟩ = false := by rw [(bcell hb).2 _ _ (by first | omega | (simp <;> omega))]; go_simp
        have ki3 : wt4.cell? ⟨wca.heap.size, 3, none⟩ = some (.int .i64 0) := cell_later hb (by go_simp)
        have ji3 : wt4.frozen? ⟨wca.heap.size, 3, none⟩ = false := by rw [(bcell hb).2 _ _ (by first | omega | (simp <;> omega))]; go_simp
        replace zd : gd < wt4.heap.size := World.block_lt_of_cell? _ _ kd0
        have zd_wt4 := zd
        replace zm : w.heap.size < wt4.heap.size := World.block_lt_of_cell? _ _ km0
        have zm_wt4 := zm
        replace zn : w.heap.size + 1 < wt4.heap.size := World.block_lt_of_cell? _ _ kn0
        have zn_wt4 := zn
        replace zp : w.heap.size + 1 + 1 < wt4.heap.size := World.block_lt_of_cell? _ _ kp0
        have zp_wt4 := zp
        replace zc : w3.heap.size < wt4.heap.size := World.block_lt_of_cell? _ _ kc0
        have zc_wt4 := zc
        have zi : wca.heap.size < wt4.heap.size := World.block_lt_of_cell? _ _ ki0
        have zi_wt4 := zi
        replace hb0 : Below w.heap.size w wt4 := (by repeat (first | with_reducible exact Below.refl _ _ | with_reducible assumption | with_reducible refine Below.setCell ?_ (by first | omega | (simp <;> omega)) _ | with_reducible refine balloc ?_ _ | with_reducible refine Below.drew ?_ | with_reducible refine bstep ?_ (by with_reducible assumption)))
        have hs_wt4 := hb.size; (try simp only [World.size_alloc, World.size_setCell] at hs_wt4)
        clear hb
        (try go_wp2_with fail)
        refine hKK.out _ _ (by first | (go_keep; done) | ((repeat' apply And.intro) <;> go_simp)) (fun hHeld => ?_)
        clear hKK KK
        try simp only [Act.put, List.setIfInBounds_toArray, List.set_cons_zero, List.set_cons_succ]
        refine wpAnyH_ready (rs := [2]) (by kernel_rfl) (by simp) ?_
        refine AllReadyH.cons (o := ⟨some 57, _, _, _, _, _⟩) rfl (fun KK hKK => ?_) AllReadyH.nil
        go_simp
        refine Calls.mono (ex4 _) ?_
        rintro e wt5 ⟨rfl, hb⟩
        replace kd0 := cell_later hb kd0
        replace kd1 := cell_later hb kd1
        replace kd2 := cell_later hb kd2
        replace kd3 := cell_later hb kd3
        replace km0 := cell_later hb km0
        replace km1 := cell_later hb km1
        replace km2 := cell_later hb km2
        replace km3 := cell_later hb km3
        replace km4 := cell_later hb km4
        replace km5 := cell_later hb km5
        replace km6 := cell_later hb km6
        replace kn0 := cell_later hb kn0
        replace kn1 := cell_later hb kn1
        replace kn2 := cell_later hb kn2
        replace kn3 := cell_later hb kn3
        replace kn4 := cell_later hb kn4
        replace kn5 := cell_later hb kn5
        replace kn6 := cell_later hb kn6
        replace kp0 := cell_later hb kp0
        replace kp1 := cell_later hb kp1
        replace kc0 := cell_later hb kc0
        replace kc1 := cell_later hb kc1
        replace kc2 := cell_later hb kc2
        replace kc3 := cell_later hb kc3
        replace ji0 := fro_later hb ki0 ji0
        replace ki0 := cell_later hb ki0
        replace ji1 := fro_later hb ki1 ji1
        replace ki1 := cell_later hb ki1
        replace ji2 := fro_later hb ki2 ji2
        replace ki2 := cell_later hb ki2
        replace ji3 := fro_later hb ki3 ji3
        replace ki3 := cell_later hb ki3
        replace zd : gd < wt5.heap.size := World.block_lt_of_cell? _ _ kd0
        have zd_wt5 := zd
        replace zm : w.heap.size < wt5.heap.size := World.block_lt_of_cell? _ _ km0
        have zm_wt5 := zm
        replace zn : w.heap.size + 1 < wt5.heap.size := World.block_lt_of_cell? _ _ kn0
        have zn_wt5 := zn
        replace zp : w.heap.size + 1 + 1 < wt5.heap.size := World.block_lt_of_cell? _ _ kp0
        have zp_wt5 := zp
        replace zc : w3.heap.size < wt5.heap.size := World.block_lt_of_cell? _ _ kc0
        have zc_wt5 := zc
        replace zi : wca.heap.size < wt5.heap.size := World.block_lt_of_cell? _ _ ki0
        have zi_wt5 := zi
        replace hb0 : Below w.heap.size w wt5 := (by repeat (first | with_reducible exact Below.refl _ _ | with_reducible assumption | with_reducible refine Below.setCell ?_ (by first | omega | (simp <;> omega)) _ | with_reducible refine balloc ?_ _ | with_reducible refine Below.drew ?_ | with_reducible refine bstep ?_ (by with_reducible assumption)))
        have hs_wt5 : wt4.heap.size ≤ wt5.heap.size := hb.size
        clear hb
        (try go_wp2_with fail)
        refine hKK.out _ _ (by first | (go_keep; done) | ((repeat' apply And.intro) <;> go_simp)) (fun hHeld => ?_)
        clear hKK KK
        try simp only [Act.put, List.setIfInBounds_toArray, List.set_cons_zero, List.set_cons_succ]
        refine wpAnyH_take (i := 3) (oi := ⟨some 54, _, _, _, _, _⟩) (v := ?_) rfl (by kernel_rfl) (by kernel_rfl) (by kernel_rfl) (fun _ _ _ h => h) (Or.inl ⟨by rfl, ?_⟩) (by assumption) ?_
        rotate_left
        · intro w hSw; (try dsimp only at hSw); go_simp; try with_reducible rfl
        try simp only [Act.put, List.setIfInBounds_toArray, List.set_cons_zero, List.set_cons_succ]
        refine wpAnyH_take (i := 4) (oi := ⟨some 58, _, _, _, _, _⟩) (v := ?_) rfl (by kernel_rfl) (by kernel_rfl) (by kernel_rfl) (fun _ _ _ h => h) (Or.inl ⟨by rfl, ?_⟩) (by assumption) ?_
        rotate_left
        · intro w hSw; (try dsimp only at hSw); go_simp; try with_reducible rfl
        try simp only [Act.put, List.setIfInBounds_toArray, List.set_cons_zero, List.set_cons_succ]
        refine wpAnyH_take (i := 5) (oi := ⟨some 59, _, _, _, _, _⟩) (v := ?_) rfl (by kernel_rfl) (by kernel_rfl) (by kernel_rfl) (fun _ _ _ h => h) (Or.inl ⟨by rfl, ?_⟩) (by assumption) ?_
        rotate_left
        · intro w hSw; (try dsimp only at hSw); go_simp; try with_reducible rfl
        try simp only [Act.put, List.setIfInBounds_toArray, List.set_cons_zero, List.set_cons_succ]
        refine wpAnyH_ready (rs := [7]) (by kernel_rfl) (by simp) ?_
        refine AllReadyH.cons (o := ⟨none, _, _, _, _, _⟩) rfl (fun KK hKK => ?_) AllReadyH.nil
        go_simp
        (try go_wp2_with fail)
        refine hKK.out _ _ (by first | (go_keep; done) | ((repeat' apply And.intro) <;> go_simp)) (fun hHeld => ?_)
        clear hKK KK
        try simp only [Act.put, List.setIfInBounds_toArray, List.set_cons_zero, List.set_cons_succ]
        refine wpAnyH_take (i := 8) (oi := ⟨some 13, _, _, _, _, _⟩) (v := ?_) rfl (by kernel_rfl) (by kernel_rfl) (by kernel_rfl) (fun _ _ _ h => h) (Or.inl ⟨by rfl, ?_⟩) (by assumption) ?_
        rotate_left
        · intro w hSw; (try dsimp only at hSw); go_simp; try with_reducible rfl
        try simp only [Act.put, List.setIfInBounds_toArray, List.set_cons_zero, List.set_cons_succ]
        refine wpAnyH_done (by kernel_rfl) ?_ _
        (try dsimp only [Exit.then, Met])
        go_wp2_with fail
        go_meet
        refine ⟨_, rfl, rfl, by first | omega | (simp; omega), ?_, ?_, ?_, ?_, ?_, ?_, ?_, ?_, ?_, ?_, ?_, ?_, ?_, ?_, ?_, ?_, ?_, ?_, ?_, ?_, ?_, ?_, ?_, ?_, ?_, ?_, ?_, ?_, (by repeat (first | with_reducible exact Below.refl _ _ | with_reducible assumption | with_reducible refine Below.setCell ?_ (by first | omega | (simp <;> omega)) _ | with_reducible refine balloc ?_ _ | with_reducible refine Below.drew ?_ | with_reducible refine bstep ?_ (by with_reducible assumption)))⟩
        all_goals first | (with_reducible assumption) | go_simp
    case rest =>
      rename World => wcb
      obtain ⟨gi, rfl, rfl, lgi, ki0, ki1, ki2, ki3, kd0, kd1, kd2, kd3, km0, km1, km2, km3, km4, km5, km6, kn0, kn1, kn2, kn3, kn4, kn5, kn6, kp0, kp1, kc0, kc1, kc2, kc3, hb0⟩ := hcut
      have zi : gi < wcb.heap.size := World.block_lt_of_cell? _ _ ki0
      have zi_wcb := zi
      have zd : gd < wcb.heap.size := World.block_lt_of_cell? _ _ kd0
      have zd_wcb := zd
      have zm : w.heap.size < wcb.heap.size := World.block_lt_of_cell? _ _ km0
      have zm_wcb := zm
      have zn : w.heap.size + 1 < wcb.heap.size := World.block_lt_of_cell? _ _ kn0
      have zn_wcb := zn
      have zp : w.heap.size + 1 + 1 < wcb.heap.size := World.block_lt_of_cell? _ _ kp0
      have zp_wcb := zp
      have zc : w3.heap.size < wcb.heap.size := World.block_lt_of_cell? _ _ kc0
      have zc_wcb := zc
      go_wp2_with fail
      refine Calls.mono (ex5 _) ?_
      rintro e w4 ⟨rfl, hb⟩
      replace ki0 := cell_later hb ki0
      replace ki1 := cell_later hb ki1
      replace ki2 := cell_later hb ki2
      replace ki3 := cell_later hb ki3
      replace kd0 := cell_later hb kd0
      replace kd1 := cell_later hb kd1
      replace kd2 := cell_later hb kd2
      replace kd3 := cell_later hb kd3
      replace km0 := cell_later hb km0
      replace km1 := cell_later hb km1
      replace km2 := cell_later hb km2
      replace km3 := cell_later hb km3
      replace km4 := cell_later hb km4
      replace km5 := cell_later hb km5
      replace km6 := cell_later hb km6
      replace kn0 := cell_later hb kn0
      replace kn1 := cell_later hb kn1
      replace kn2 := cell_later hb kn2
      replace kn3 := cell_later hb kn3
      replace kn4 := cell_later hb kn4
      replace kn5 := cell_later hb kn5
      replace kn6 := cell_later hb kn6
      replace kp0 := cell_later hb kp0
      replace kp1 := cell_later hb kp1
      replace kc0 := cell_later hb kc0
      replace kc1 := cell_later hb kc1
      replace kc2 := cell_later hb kc2
      replace kc3 := cell_later hb kc3
      replace zi : gi < w4.heap.size := World.block_lt_of_cell? _ _ ki0
      have zi_w4 := zi
      replace zd : gd < w4.heap.size := World.block_lt_of_cell? _ _ kd0
      have zd_w4 := zd
      replace zm : w.heap.size < w4.heap.size := World.block_lt_of_cell? _ _ km0
      have zm_w4 := zm
      replace zn : w.heap.size + 1 < w4.heap.size := World.block_lt_of_cell? _ _ kn0
      have zn_w4 := zn
      replace zp : w.heap.size + 1 + 1 < w4.heap.size := World.block_lt_of_cell? _ _ kp0
      have zp_w4 := zp
      replace zc : w3.heap.size < w4.heap.size := World.block_lt_of_cell? _ _ kc0
      have zc_w4 := zc
      replace hb0 : Below w.heap.size w w4 := (by repeat (first | with_reducible exact Below.refl _ _ | with_reducible assumption | with_reducible refine Below.setCell ?_ (by first | omega | (simp <;> omega)) _ | with_reducible refine balloc ?_ _ | with_reducible refine Below.drew ?_ | with_reducible refine bstep ?_ (by with_reducible assumption)))
      have hs_w4 : wcb.heap.size ≤ w4.heap.size := hb.size
      clear hb
      go_wp2_with fail
      refine Calls.mono (ex6 _) ?_
      rintro e w5 ⟨rfl, hb⟩
      replace ki0 := cell_later hb (cell_al _ ki0)
      replace ki1 := cell_later hb (cell_al _ ki1)
      replace ki2 := cell_later hb (cell_al _ ki2)
      replace ki3 := cell_later hb (cell_al _ ki3)
      replace kd0 := cell_later hb (cell_al _ kd0)
      replace kd1 := cell_later hb (cell_al _ kd1)
      replace kd2 := cell_later hb (cell_al _ kd2)
      replace kd3 := cell_later hb (cell_al _ kd3)
      replace km0 := cell_later hb (cell_al _ km0)
      replace km1 := cell_later hb (cell_al _ km1)
      replace km2 := cell_later hb (cell_al _ km2)
      replace km3 := cell_later hb (cell_al _ km3)
      replace km4 := cell_later hb (cell_al _ km4)
      replace km5 := cell_later hb (cell_al _ km5)
      replace km6 := cell_later hb (cell_al _ km6)
      replace kn0 := cell_later hb (cell_al _ kn0)
      replace kn1 := cell_later hb (cell_al _ kn1)
      replace kn2 := cell_later hb (cell_al _ kn2)
      replace kn3 := cell_later hb (cell_al _ kn3)
      replace kn4 := cell_later hb (cell_al _ kn4)
      replace kn5 := cell_later hb (cell_al _ kn5)
      replace kn6 := cell_later hb (cell_al _ kn6)
      replace kp0 := cell_later hb (cell_al _ kp0)
      replace kp1 := cell_later hb (cell_al _ kp1)
      replace kc0 := cell_later hb (cell_al _ kc0)
      replace kc1 := cell_later hb (cell_al _ kc1)
      replace kc2 := cell_later hb (cell_al _ kc2)
      replace kc3 := cell_later hb (cell_al _ kc3)
      have kl0 : w5.cell? ⟨w4.heap.size, 0, none⟩ = some (.int .i64 0) := cell_later hb (by go_simp)
      have kl1 : w5.cell? ⟨w4.heap.size, 1, none⟩ = some (.int .i64 (-1000000)) := cell_later hb (by go_simp)
      have kl2 : w5.cell? ⟨w4.heap.size, 2, none⟩ = some (.int .i64 15) := cell_later hb (by go_simp)
      have kl3 : w5.cell? ⟨w4.heap.size, 3, none⟩ = some (.int .i64 1000000) := cell_later hb (by go_simp)
      have kl4 : w5.cell? ⟨w4.heap.size, 4, none⟩ = some (.int .i64 0) := cell_later hb (by go_simp)
      have kl5 : w5.cell? ⟨w4.heap.size, 5, none⟩ = some (.int .i64 5) := cell_later hb (by go_simp)
      have kl6 : w5.cell? ⟨w4.heap.size, 6, none⟩ = some (.int .i64 3) := cell_later hb (by go_simp)
      replace zi : gi < w5.heap.size := World.block_lt_of_cell? _ _ ki0
      have zi_w5 := zi
      replace zd : gd < w5.heap.size := World.block_lt_of_cell? _ _ kd0
      have zd_w5 := zd
      replace zm : w.heap.size < w5.heap.size := World.block_lt_of_cell? _ _ km0
      have zm_w5 := zm
      replace zn : w.heap.size + 1 < w5.heap.size := World.block_lt_of_cell? _ _ kn0
      have zn_w5 := zn
      replace zp : w.heap.size + 1 + 1 < w5.heap.size := World.block_lt_of_cell? _ _ kp0
      have zp_w5 := zp
      replace zc : w3.heap.size < w5.heap.size := World.block_lt_of_cell? _ _ kc0
      have zc_w5 := zc
      have zl : w4.heap.size < w5.heap.size := World.block_lt_of_cell? _ _ kl0
      have zl_w5 := zl
      replace hb0 : Below w.heap.size w w5 := (by repeat (first | with_reducible exact Below.refl _ _ | with_reducible assumption | with_reducible refine Below.setCell ?_ (by first | omega | (simp <;> omega)) _ | with_reducible refine balloc ?_ _ | with_reducible refine Below.drew ?_ | with_reducible refine bstep ?_ (by with_reducible assumption)))
      have hs_w5 := hb.size; (try simp only [World.size_alloc, World.size_setCell] at hs_w5)
      clear hb
      go_wp2_with fail
      refine Calls.mono (ex7 _) ?_
      rintro e w6 ⟨rfl, hb⟩
      replace ki0 := cell_later hb (cell_al _ ki0)
      replace ki1 := cell_later hb (cell_al _ ki1)
      replace ki2 := cell_later hb (cell_al _ ki2)
      replace ki3 := cell_later hb (cell_al _ ki3)
      replace kd0 := cell_later hb (cell_al _ kd0)
      replace kd1 := cell_later hb (cell_al _ kd1)
      replace kd2 := cell_later hb (cell_al _ kd2)
      replace kd3 := cell_later hb (cell_al _ kd3)
      replace km0 := cell_later hb (cell_al _ km0)
      replace km1 := cell_later hb (cell_al _ km1)
      replace km2 := cell_later hb (cell_al _ km2)
      replace km3 := cell_later hb (cell_al _ km3)
      replace km4 := cell_later hb (cell_al _ km4)
      replace km5 := cell_later hb (cell_al _ km5)
      replace km6 := cell_later hb (cell_al _ km6)
      replace kn0 := cell_later hb (cell_al _ kn0)
      replace kn1 := cell_later hb (cell_al _ kn1)
      replace kn2 := cell_later hb (cell_al _ kn2)
      replace kn3 := cell_later hb (cell_al _ kn3)
      replace kn4 := cell_later hb (cell_al _ kn4)
      replace kn5 := cell_later hb (cell_al _ kn5)
      replace kn6 := cell_later hb (cell_al _ kn6)
      replace kp0 := cell_later hb (cell_al _ kp0)
      replace kp1 := cell_later hb (cell_al _ kp1)
      replace kc0 := cell_later hb (cell_al _ kc0)
      replace kc1 := cell_later hb (cell_al _ kc1)
      replace kc2 := cell_later hb (cell_al _ kc2)
      replace kc3 := cell_later hb (cell_al _ kc3)
      replace kl0 := cell_later hb (cell_al _ kl0)
      replace kl1 := cell_later hb (cell_al _ kl1)
      replace kl2 := cell_later hb (cell_al _ kl2)
      replace kl3 := cell_later hb (cell_al _ kl3)
      replace kl4 := cell_later hb (cell_al _ kl4)
      replace kl5 := cell_later hb (cell_al _ kl5)
      replace kl6 := cell_later hb (cell_al _ kl6)
      have kq0 : w6.cell? ⟨w5.heap.size, 0, none⟩ = some (.int .i64 0) := cell_later hb (by go_simp)
      have kq1 : w6.cell? ⟨w5.heap.size, 1, none⟩ = some (.int .i64 1000000) := cell_later hb (by go_simp)
      have kq2 : w6.cell? ⟨w5.heap.size, 2, none⟩ = some (.int .i64 0) := cell_later hb (by go_simp)
      have kq3 : w6.cell? ⟨w5.heap.size, 3, none⟩ = some (.int .i64 (-1000000)) := cell_later hb (by go_simp)
      have kq4 : w6.cell? ⟨w5.heap.size, 4, none⟩ = some (.int .i64 0) := cell_later hb (by go_simp)
      have kq5 : w6.cell? ⟨w5.heap.size, 5, none⟩ = some (.int .i64 10) := cell_later hb (by go_simp)
      have kq6 : w6.cell? ⟨w5.heap.size, 6, none⟩ = some (.int .i64 4) := cell_later hb (by go_simp)
      replace zi : gi < w6.heap.size := World.block_lt_of_cell? _ _ ki0
      have zi_w6 := zi
      replace zd : gd < w6.heap.size := World.block_lt_of_cell? _ _ kd0
      have zd_w6 := zd
      replace zm : w.heap.size < w6.heap.size := World.block_lt_of_cell? _ _ km0
      have zm_w6 := zm
      replace zn : w.heap.size + 1 < w6.heap.size := World.block_lt_of_cell? _ _ kn0
      have zn_w6 := zn
      replace zp : w.heap.size + 1 + 1 < w6.heap.size := World.block_lt_of_cell? _ _ kp0
      have zp_w6 := zp
      replace zc : w3.heap.size < w6.heap.size := World.block_lt_of_cell? _ _ kc0
      have zc_w6 := zc
      replace zl : w4.heap.size < w6.heap.size := World.block_lt_of_cell? _ _ kl0
      have zl_w6 := zl
      have zq : w5.heap.size < w6.heap.size := World.block_lt_of_cell? _ _ kq0
      have zq_w6 := zq
      replace hb0 : Below w.heap.size w w6 := (by repeat (first | with_reducible exact Below.refl _ _ | with_reducible assumption | with_reducible refine Below.setCell ?_ (by first | omega | (simp <;> omega)) _ | with_reducible refine balloc ?_ _ | with_reducible refine Below.drew ?_ | with_reducible refine bstep ?_ (by with_reducible assumption)))
      have hs_w6 := hb.size; (try simp only [World.size_alloc, World.size_setCell] at hs_w6)
      clear hb
      go_upto_region 12 with fail
      go_cut [20, 21] (fun s20 s21 wx => ∃ gx : Nat, s20 = .pointer (some ⟨gx, 0, none⟩) ∧ s21 = (.int .i64 0) ∧ w6.heap.size + 1 ≤ gx ∧ wx.cell? ⟨gx, 0, none⟩ = some (.int .i64 (-1000000)) ∧ wx.cell? ⟨gx, 1, none⟩ = some (.int .i64 (-999998)) ∧ wx.cell? ⟨gx, 2, none⟩ = some (.int .i64 (-999991)) ∧ wx.cell? ⟨gx, 3, none⟩ = some (.int .i64 (-999988)) ∧ wx.cell? ⟨gi, 0, none⟩ = some (.int .i64 2) ∧ wx.cell? ⟨gi, 1, none⟩ = some (.int .i64 4) ∧ wx.cell? ⟨gi, 2, none⟩ = some (.int .i64 3) ∧ wx.cell? ⟨gi, 3, none⟩ = some (.int .i64 5) ∧ wx.cell? ⟨gd, 0, none⟩ = some (.int .i64 (-11)) ∧ wx.cell? ⟨gd, 1, none⟩ = some (.int .i64 11) ∧ wx.cell? ⟨gd, 2, none⟩ = some (.int .i64 (-1)) ∧ wx.cell? ⟨gd, 3, none⟩ = some (.int .i64 11) ∧ wx.cell? ⟨w.heap.size, 0, none⟩ = some (.int .i64 0) ∧ wx.cell? ⟨w.heap.size, 1, none⟩ = some (.int .i64 (-1000000)) ∧ wx.cell? ⟨w.heap.size, 2, none⟩ = some (.int .i64 10) ∧ wx.cell? ⟨w.heap.size, 3, none⟩ = some (.int .i64 1000000) ∧ wx.cell? ⟨w.heap.size, 4, none⟩ = some (.int .i64 0) ∧ wx.cell? ⟨w.heap.size, 5, none⟩ = some (.int .i64 0) ∧ wx.cell? ⟨w.heap.size, 6, none⟩ = some (.int .i64 1) ∧ wx.cell? ⟨w.heap.size + 1, 0, none⟩ = some (.int .i64 1000000) ∧ wx.cell? ⟨w.heap.size + 1, 1, none⟩ = some (.int .i64 0) ∧ wx.cell? ⟨w.heap.size + 1, 2, none⟩ = some (.int .i64 5) ∧ wx.cell? ⟨w.heap.size + 1, 3, none⟩ = some (.int .i64 0) ∧ wx.cell? ⟨w.heap.size + 1, 4, none⟩ = some (.int .i64 1000000) ∧ wx.cell? ⟨w.heap.size + 1, 5, none⟩ = some (.int .i64 5) ∧ wx.cell? ⟨w.heap.size + 1, 6, none⟩ = some (.int .i64 0) ∧ wx.cell? ⟨w.heap.size + 1 + 1, 0, none⟩ = some (.int .i64 3) ∧ wx.cell? ⟨w.heap.size + 1 + 1, 1, none⟩ = some (.int .i64 4) ∧ wx.cell? ⟨w3.heap.size, 0, none⟩ = some (.int .i64 5) ∧ wx.cell? ⟨w3.heap.size, 1, none⟩ = some (.int .i64 7) ∧ wx.cell? ⟨w3.heap.size, 2, none⟩ = some (.int .i64 2) ∧ wx.cell? ⟨w3.heap.size, 3, none⟩ = some (.int .i64 4) ∧ wx.cell? ⟨w4.heap.size, 0, none⟩ = some (.int .i64 0) ∧ wx.cell? ⟨w4.heap.size, 1, none⟩ = some (.int .i64 (-1000000)) ∧ wx.cell? ⟨w4.heap.size, 2, none⟩ = some (.int .i64 15) ∧ wx.cell? ⟨w4.heap.size, 3, none⟩ = some (.int .i64 1000000) ∧ wx.cell? ⟨w4.heap.size, 4, none⟩ = some (.int .i64 0) ∧ wx.cell? ⟨w4.heap.size, 5, none⟩ = some (.int .i64 5) ∧ wx.cell? ⟨w4.heap.size, 6, none⟩ = some (.int .i64 3) ∧ wx.cell? ⟨w5.heap.size, 0, none⟩ = some (.int .i64 0) ∧ wx.cell? ⟨w5.heap.size, 1, none⟩ = some (.int .i64 1000000) ∧ wx.cell? ⟨w5.heap.size, 2, none⟩ = some (.int .i64 0) ∧ wx.cell? ⟨w5.heap.size, 3, none⟩ = some (.int .i64 (-1000000)) ∧ wx.cell? ⟨w5.heap.size, 4, none⟩ = some (.int .i64 0) ∧ wx.cell? ⟨w5.heap.size, 5, none⟩ = some (.int .i64 10) ∧ wx.cell? ⟨w5.heap.size, 6, none⟩ = some (.int .i64 4) ∧ wx.cell? ⟨w6.heap.size, 0, none⟩ = some (.int .i64 0) ∧ wx.cell? ⟨w6.heap.size, 1, none⟩ = some (.int .i64 0) ∧ wx.cell? ⟨w6.heap.size, 2, none⟩ = some (.int .i64 0) ∧ wx.cell? ⟨w6.heap.size, 3, none⟩ = some (.int .i64 0) ∧ Below w.heap.size w wx)
      case first =>
        refine wp_region_held_drew (S := fun w' => w'.cell? ⟨w.heap.size, 0, none⟩ = some (.int .i64 0) ∧ w'.cell? ⟨w.heap.size, 1, none⟩ = some (.int .i64 (-1000000)) ∧ w'.cell? ⟨w.heap.size, 2, none⟩ = some (.int .i64 10) ∧ w'.cell? ⟨w.heap.size, 3, none⟩ = some (.int .i64 1000000) ∧ w'.cell? ⟨w.heap.size, 4, none⟩ = some (.int .i64 0) ∧ w'.cell? ⟨w.heap.size, 5, none⟩ = some (.int .i64 0) ∧ w'.cell? ⟨w.heap.size, 6, none⟩ = some (.int .i64 1)) (by kernel_rfl) (by first | (go_keep; done) | ((repeat' apply And.intro) <;> go_simp)) (fun hHeld => ?_)
        refine wpAnyH_take (i := 0) (oi := ⟨some 78, _, _, _, _, _⟩) (v := ?_) rfl (by kernel_rfl) (by kernel_rfl) (by kernel_rfl) (fun _ _ _ h => h) (Or.inl ⟨by rfl, ?_⟩) (by assumption) ?_
        rotate_left
        · intro w hSw; (try dsimp only at hSw); go_simp; try with_reducible rfl
        try simp only [Act.put, List.setIfInBounds_toArray, List.set_cons_zero, List.set_cons_succ]
        refine wpAnyH_ready (rs := [1, 6]) (by kernel_rfl) (by simp) ?_
        refine AllReadyH.cons (o := ⟨some 79, _, _, _, _, _⟩) rfl (fun KK hKK => ?_) (AllReadyH.cons (o := ⟨some 20, _, _, _, _, _⟩) rfl (fun KK hKK => ?_) AllReadyH.nil)
        · go_simp
          refine Calls.mono (box_c 999999 1000000 (-1000000) (-999999) _) ?_
          rintro e wt7 ⟨rfl, hb⟩
          replace ki0 := cell_later hb (cell_al _ ki0)
          replace ki1 := cell_later hb (cell_al _ ki1)
          replace ki2 := cell_later hb (cell_al _ ki2)
          replace ki3 := cell_later hb (cell_al _ ki3)
          replace kd0 := cell_later hb (cell_al _ kd0)
          replace kd1 := cell_later hb (cell_al _ kd1)
          replace kd2 := cell_later hb (cell_al _ kd2)
          replace kd3 := cell_later hb (cell_al _ kd3)
          replace km0 := cell_later hb (cell_al _ km0)
          replace km1 := cell_later hb (cell_al _ km1)
          replace km2 := cell_later hb (cell_al _ km2)
          replace km3 := cell_later hb (cell_al _ km3)
          replace km4 := cell_later hb (cell_al _ km4)
          replace km5 := cell_later hb (cell_al _ km5)
          replace km6 := cell_later hb (cell_al _ km6)
          replace kn0 := cell_later hb (cell_al _ kn0)
          replace kn1 := cell_later hb (cell_al _ kn1)
          replace kn2 := cell_later hb (cell_al _ kn2)
          replace kn3 := cell_later hb (cell_al _ kn3)
          replace kn4 := cell_later hb (cell_al _ kn4)
          replace kn5 := cell_later hb (cell_al _ kn5)
          replace kn6 := cell_later hb (cell_al _ kn6)
          replace kp0 := cell_later hb (cell_al _ kp0)
          replace kp1 := cell_later hb (cell_al _ kp1)
          replace kc0 := cell_later hb (cell_al _ kc0)
          replace kc1 := cell_later hb (cell_al _ kc1)
          replace kc2 := cell_later hb (cell_al _ kc2)
          replace kc3 := cell_later hb (cell_al _ kc3)
          replace kl0 := cell_later hb (cell_al _ kl0)
          replace kl1 := cell_later hb (cell_al _ kl1)
          replace kl2 := cell_later hb (cell_al _ kl2)
          replace kl3 := cell_later hb (cell_al _ kl3)
          replace kl4 := cell_later hb (cell_al _ kl4)
          replace kl5 := cell_later hb (cell_al _ kl5)
          replace kl6 := cell_later hb (cell_al _ kl6)
          replace kq0 := cell_later hb (cell_al _ kq0)
          replace kq1 := cell_later hb (cell_al _ kq1)
          replace kq2 := cell_later hb (cell_al _ kq2)
          replace kq3 := cell_later hb (cell_al _ kq3)
          replace kq4 := cell_later hb (cell_al _ kq4)
          replace kq5 := cell_later hb (cell_al _ kq5)
          replace kq6 := cell_later hb (cell_al _ kq6)
          have ky0 : wt7.cell? ⟨w6.heap.size, 0, none⟩ = some (.int .i64 0) := cell_later hb (by go_simp)
          have ky1 : wt7.cell? ⟨w6.heap.size, 1, none⟩ = some (.int .i64 0) := cell_later hb (by go_simp)
          have ky2 : wt7.cell? ⟨w6.heap.size, 2, none⟩ = some (.int .i64 0) := cell_later hb (by go_simp)
          have ky3 : wt7.cell? ⟨w6.heap.size, 3, none⟩ = some (.int .i64 0) := cell_later hb (by go_simp)
          replace zi : gi < wt7.heap.size := World.block_lt_of_cell? _ _ ki0
          have zi_wt7 := zi
          replace zd : gd < wt7.heap.size := World.block_lt_of_cell? _ _ kd0
          have zd_wt7 := zd
          replace zm : w.heap.size < wt7.heap.size := World.block_lt_of_cell? _ _ km0
          have zm_wt7 := zm
          replace zn : w.heap.size + 1 < wt7.heap.size := World.block_lt_of_cell? _ _ kn0
          have zn_wt7 := zn
          replace zp : w.heap.size + 1 + 1 < wt7.heap.size := World.block_lt_of_cell? _ _ kp0
          have zp_wt7 := zp
          replace zc : w3.heap.size < wt7.heap.size := World.block_lt_of_cell? _ _ kc0
          have zc_wt7 := zc
          replace zl : w4.heap.size < wt7.heap.size := World.block_lt_of_cell? _ _ kl0
          have zl_wt7 := zl
          replace zq : w5.heap.size < wt7.heap.size := World.block_lt_of_cell? _ _ kq0
          have zq_wt7 := zq
          have zy : w6.heap.size < wt7.heap.size := World.block_lt_of_cell? _ _ ky0
          have zy_wt7 := zy
          replace hb0 : Below w.heap.size w wt7 := (by repeat (first | with_reducible exact Below.refl _ _ | with_reducible assumption | with_reducible refine Below.setCell ?_ (by first | omega | (simp <;> omega)) _ | with_reducible refine balloc ?_ _ | with_reducible refine Below.drew ?_ | with_reducible refine bstep ?_ (by with_reducible assumption)))
          have hs_wt7 := hb.size; (try simp only [World.size_alloc, World.size_setCell] at hs_wt7)
          clear hb
          (try go_wp2_with fail)
          refine hKK.out _ _ (by first | (go_keep; done) | ((repeat' apply And.intro) <;> go_simp)) (fun hHeld => ?_)
          clear hKK KK
          try simp only [Act.put, List.setIfInBounds_toArray, List.set_cons_zero, List.set_cons_succ]
          refine wpAnyH_ready (rs := [2, 6]) (by kernel_rfl) (by simp) ?_
          refine AllReadyH.cons (o := ⟨some 80, _, _, _, _, _⟩) rfl (fun KK hKK => ?_) (AllReadyH.cons (o := ⟨some 20, _, _, _, _, _⟩) rfl (fun KK hKK => ?_) AllReadyH.nil)
          · go_simp
            refine Calls.mono (ex8 _) ?_
            rintro e wt8 ⟨rfl, hb⟩
            replace ki0 := cell_later hb ki0
            replace ki1 := cell_later hb ki1
            replace ki2 := cell_later hb ki2
            replace ki3 := cell_later hb ki3
            replace kd0 := cell_later hb kd0
            replace kd1 := cell_later hb kd1
            replace kd2 := cell_later hb kd2
            replace kd3 := cell_later hb kd3
            replace km0 := cell_later hb km0
            replace km1 := cell_later hb km1
            replace km2 := cell_later hb km2
            replace km3 := cell_later hb km3
            replace km4 := cell_later hb km4
            replace km5 := cell_later hb km5
            replace km6 := cell_later hb km6
            replace kn0 := cell_later hb kn0
            replace kn1 := cell_later hb kn1
            replace kn2 := cell_later hb kn2
            replace kn3 := cell_later hb kn3
            replace kn4 := cell_later hb kn4
            replace kn5 := cell_later hb kn5
            replace kn6 := cell_later hb kn6
            replace kp0 := cell_later hb kp0
            replace kp1 := cell_later hb kp1
            replace kc0 := cell_later hb kc0
            replace kc1 := cell_later hb kc1
            replace kc2 := cell_later hb kc2
            replace kc3 := cell_later hb kc3
            replace kl0 := cell_later hb kl0
            replace kl1 := cell_later hb kl1
            replace kl2 := cell_later hb kl2
            replace kl3 := cell_later hb kl3
            replace kl4 := cell_later hb kl4
            replace kl5 := cell_later hb kl5
            replace kl6 := cell_later hb kl6
            replace kq0 := cell_later hb kq0
            replace kq1 := cell_later hb kq1
            replace kq2 := cell_later hb kq2
            replace kq3 := cell_later hb kq3
            replace kq4 := cell_later hb kq4
            replace kq5 := cell_later hb kq5
            replace kq6 := cell_later hb kq6
            replace ky0 := cell_later hb ky0
            replace ky1 := cell_later hb ky1
            replace ky2 := cell_later hb ky2
            replace ky3 := cell_later hb ky3
            replace zi : gi < wt8.heap.size := World.block_lt_of_cell? _ _ ki0
            have zi_wt8 := zi
            replace zd : gd < wt8.heap.size := World.block_lt_of_cell? _ _ kd0
            have zd_wt8 := zd
            replace zm : w.heap.size < wt8.heap.size := World.block_lt_of_cell? _ _ km0
            have zm_wt8 := zm
            replace zn : w.heap.size + 1 < wt8.heap.size := World.block_lt_of_cell? _ _ kn0
            have zn_wt8 := zn
            replace zp : w.heap.size + 1 + 1 < wt8.heap.size := World.block_lt_of_cell? _ _ kp0
            have zp_wt8 := zp
            replace zc : w3.heap.size < wt8.heap.size := World.block_lt_of_cell? _ _ kc0
            have zc_wt8 := zc
            replace zl : w4.heap.size < wt8.heap.size := World.block_lt_of_cell? _ _ kl0
            have zl_wt8 := zl
            replace zq : w5.heap.size < wt8.heap.size := World.block_lt_of_cell? _ _ kq0
            have zq_wt8 := zq
            replace zy : w6.heap.size < wt8.heap.size := World.block_lt_of_cell? _ _ ky0
            have zy_wt8 := zy
            replace hb0 : Below w.heap.size w wt8 := (by repeat (first | with_reducible exact Below.refl _ _ | with_reducible assumption | with_reducible refine Below.setCell ?_ (by first | omega | (simp <;> omega)) _ | with_reducible refine balloc ?_ _ | with_reducible refine Below.drew ?_ | with_reducible refine bstep ?_ (by with_reducible assumption)))
            have hs_wt8 : wt7.heap.size ≤ wt8.heap.size := hb.size
            clear hb
            (try go_wp2_with fail)
            refine hKK.out _ _ (by first | (go_keep; done) | ((repeat' apply And.intro) <;> go_simp)) (fun hHeld => ?_)
            clear hKK KK
            try simp only [Act.put, List.setIfInBounds_toArray, List.set_cons_zero, List.set_cons_succ]
            refine wpAnyH_take (i := 3) (oi := ⟨some 77, _, _, _, _, _⟩) (v := ?_) rfl (by kernel_rfl) (by kernel_rfl) (by kernel_rfl) (fun _ _ _ h => h) (Or.inl ⟨by rfl, ?_⟩) (by assumption) ?_
            rotate_left
            · intro w hSw; (try dsimp only at hSw); go_simp; try with_reducible rfl
            try simp only [Act.put, List.setIfInBounds_toArray, List.set_cons_zero, List.set_cons_succ]
            refine wpAnyH_take (i := 4) (oi := ⟨some 81, _, _, _, _, _⟩) (v := ?_) rfl (by kernel_rfl) (by kernel_rfl) (by kernel_rfl) (fun _ _ _ h => h) (Or.inl ⟨by rfl, ?_⟩) (by assumption) ?_
            rotate_left
            · intro w hSw; (try dsimp only at hSw); go_simp; try with_reducible rfl
            try simp only [Act.put, List.setIfInBounds_toArray, List.set_cons_zero, List.set_cons_succ]
            refine wpAnyH_take (i := 5) (oi := ⟨some 82, _, _, _, _, _⟩) (v := ?_) rfl (by kernel_rfl) (by kernel_rfl) (by kernel_rfl) (fun _ _ _ h => h) (Or.inl ⟨by rfl, ?_⟩) (by assumption) ?_
            rotate_left
            · intro w hSw; (try dsimp only at hSw); go_simp; try with_reducible rfl
            try simp only [Act.put, List.setIfInBounds_toArray, List.set_cons_zero, List.set_cons_succ]
            refine wpAnyH_ready (rs := [6]) (by kernel_rfl) (by simp) ?_
            refine AllReadyH.cons (o := ⟨some 20, _, _, _, _, _⟩) rfl (fun KK hKK => ?_) AllReadyH.nil
            go_simp
            (try go_wp2_with fail)
            refine hKK.out _ _ (by first | (go_keep; done) | ((repeat' apply And.intro) <;> go_simp)) (fun hHeld => ?_)
            clear hKK KK
            try simp only [Act.put, List.setIfInBounds_toArray, List.set_cons_zero, List.set_cons_succ]
            refine wpAnyH_ready (rs := [7]) (by kernel_rfl) (by simp) ?_
            refine AllReadyH.cons (o := ⟨none, _, _, _, _, _⟩) rfl (fun KK hKK => ?_) AllReadyH.nil
            go_simp
            (try go_wp2_with fail)
            refine hKK.out _ _ (by first | (go_keep; done) | ((repeat' apply And.intro) <;> go_simp)) (fun hHeld => ?_)
            clear hKK KK
            try simp only [Act.put, List.setIfInBounds_toArray, List.set_cons_zero, List.set_cons_succ]
            refine wpAnyH_take (i := 8) (oi := ⟨some 21, _, _, _, _, _⟩) (v := ?_) rfl (by kernel_rfl) (by kernel_rfl) (by kernel_rfl) (fun _ _ _ h => h) (Or.inl ⟨by rfl, ?_⟩) (by assumption) ?_
            rotate_left
            · intro w hSw; (try dsimp only at hSw); go_simp; try with_reducible rfl
            try simp only [Act.put, List.setIfInBounds_toArray, List.set_cons_zero, List.set_cons_succ]
            refine wpAnyH_done (by kernel_rfl) ?_ _
            (try dsimp only [Exit.then, Met])
            go_wp2_with fail
            go_meet
            refine ⟨_, rfl, rfl, by first | omega | (simp; omega), ?_, ?_, ?_, ?_, ?_, ?_, ?_, ?_, ?_, ?_, ?_, ?_, ?_, ?_, ?_, ?_, ?_, ?_, ?_, ?_, ?_, ?_, ?_, ?_, ?_, ?_, ?_, ?_, ?_, ?_, ?_, ?_, ?_, ?_, ?_, ?_, ?_, ?_, ?_, ?_, ?_, ?_, ?_, ?_, ?_, ?_, ?_, ?_, ?_, ?_, (by repeat (first | with_reducible exact Below.refl _ _ | with_reducible assumption | with_reducible refine Below.setCell ?_ (by first | omega | (simp <;> omega)) _ | with_reducible refine balloc ?_ _ | with_reducible refine Below.drew ?_ | with_reducible refine bstep ?_ (by with_reducible assumption)))⟩
            all_goals first | (with_reducible assumption) | go_simp
          · go_simp
            (try go_wp2_with fail)
            refine hKK.out _ _ (by first | (go_keep; done) | ((repeat' apply And.intro) <;> go_simp)) (fun hHeld => ?_)
            clear hKK KK
            try simp only [Act.put, List.setIfInBounds_toArray, List.set_cons_zero, List.set_cons_succ]
            refine wpAnyH_ready (rs := [2]) (by kernel_rfl) (by simp) ?_
            refine AllReadyH.cons (o := ⟨some 80, _, _, _, _, _⟩) rfl (fun KK hKK => ?_) AllReadyH.nil
            go_simp
            refine Calls.mono (ex8 _) ?_
            rintro e wt8 ⟨rfl, hb⟩
            replace ki0 := cell_later hb (cell_al _ ki0)
            replace ki1 := cell_later hb (cell_al _ ki1)
            replace ki2 := cell_later hb (cell_al _ ki2)
            replace ki3 := cell_later hb (cell_al _ ki3)
            replace kd0 := cell_later hb (cell_al _ kd0)
            replace kd1 := cell_later hb (cell_al _ kd1)
            replace kd2 := cell_later hb (cell_al _ kd2)
            replace kd3 := cell_later hb (cell_al _ kd3)
            replace km0 := cell_later hb (cell_al _ km0)
            replace km1 := cell_later hb (cell_al _ km1)
            replace km2 := cell_later hb (cell_al _ km2)
            replace km3 := cell_later hb (cell_al _ km3)
            replace km4 := cell_later hb (cell_al _ km4)
            replace km5 := cell_later hb (cell_al _ km5)
            replace km6 := cell_later hb (cell_al _ km6)
            replace kn0 := cell_later hb (cell_al _ kn0)
            replace kn1 := cell_later hb (cell_al _ kn1)
            replace kn2 := cell_later hb (cell_al _ kn2)
            replace kn3 := cell_later hb (cell_al _ kn3)
            replace kn4 := cell_later hb (cell_al _ kn4)
            replace kn5 := cell_later hb (cell_al _ kn5)
            replace kn6 := cell_later hb (cell_al _ kn6)
            replace kp0 := cell_later hb (cell_al _ kp0)
            replace kp1 := cell_later hb (cell_al _ kp1)
            replace kc0 := cell_later hb (cell_al _ kc0)
            replace kc1 := cell_later hb (cell_al _ kc1)
            replace kc2 := cell_later hb (cell_al _ kc2)
            replace kc3 := cell_later hb (cell_al _ kc3)
            replace kl0 := cell_later hb (cell_al _ kl0)
            replace kl1 := cell_later hb (cell_al _ kl1)
            replace kl2 := cell_later hb (cell_al _ kl2)
            replace kl3 := cell_later hb (cell_al _ kl3)
            replace kl4 := cell_later hb (cell_al _ kl4)
            replace kl5 := cell_later hb (cell_al _ kl5)
            replace kl6 := cell_later hb (cell_al _ kl6)
            replace kq0 := cell_later hb (cell_al _ kq0)
            replace kq1 := cell_later hb (cell_al _ kq1)
            replace kq2 := cell_later hb (cell_al _ kq2)
            replace kq3 := cell_later hb (cell_al _ kq3)
            replace kq4 := cell_later hb (cell_al _ kq4)
            replace kq5 := cell_later hb (cell_al _ kq5)
            replace kq6 := cell_later hb (cell_al _ kq6)
            replace ky0 := cell_later hb (cell_al _ ky0)
            replace ky1 := cell_later hb (cell_al _ ky1)
            replace ky2 := cell_later hb (cell_al _ ky2)
            replace ky3 := cell_later hb (cell_al _ ky3)
            have kx0 : wt8.cell? ⟨wt7.heap.size, 0, none⟩ = some (.int .i64 0) := cell_later hb (by go_simp)
            have jx0 : wt8.frozen? ⟨wt7.heap.size, 0, none⟩ = false := by rw [(bcell hb).2 _ _ (by first | omega | (simp <;> omega))]; go_simp
            have kx1 : wt8.cell? ⟨wt7.heap.size, 1, none⟩ = some (.int .i64 0) := cell_later hb (by go_simp)
            have jx1 : wt8.frozen? ⟨wt7.heap.size, 1, none⟩ = false := by rw [(bcell hb).2 _ _ (by first | omega | (simp <;> omega))]; go_simp
            have kx2 : wt8.cell? ⟨wt7.heap.size, 2, none⟩ = some (.int .i64 0) := cell_later hb (by go_simp)
            have jx2 : wt8.frozen? ⟨wt7.heap.size, 2, none⟩ = false := by rw [(bcell hb).2 _ _ (by first | omega | (simp <;> omega))]; go_simp
            have kx3 : wt8.cell? ⟨wt7.heap.size, 3, none⟩ = some (.int .i64 0) := cell_later hb (by go_simp)
            have jx3 : wt8.frozen? ⟨wt7.heap.size, 3, none⟩ = false := by rw [(bcell hb).2 _ _ (by first | omega | (simp <;> omega))]; go_simp
            replace zi : gi < wt8.heap.size := World.block_lt_of_cell? _ _ ki0
            have zi_wt8 := zi
            replace zd : gd < wt8.heap.size := World.block_lt_of_cell? _ _ kd0
            have zd_wt8 := zd
            replace zm : w.heap.size < wt8.heap.size := World.block_lt_of_cell? _ _ km0
            have zm_wt8 := zm
            replace zn : w.heap.size + 1 < wt8.heap.size := World.block_lt_of_cell? _ _ kn0
            have zn_wt8 := zn
            replace zp : w.heap.size + 1 + 1 < wt8.heap.size := World.block_lt_of_cell? _ _ kp0
            have zp_wt8 := zp
            replace zc : w3.heap.size < wt8.heap.size := World.block_lt_of_cell? _ _ kc0
            have zc_wt8 := zc
            replace zl : w4.heap.size < wt8.heap.size := World.block_lt_of_cell? _ _ kl0
            have zl_wt8 := zl
            replace zq : w5.heap.size < wt8.heap.size := World.block_lt_of_cell? _ _ kq0
            have zq_wt8 := zq
            replace zy : w6.heap.size < wt8.heap.size := World.block_lt_of_cell? _ _ ky0
            have zy_wt8 := zy
            have zx : wt7.heap.size < wt8.heap.size := World.block_lt_of_cell? _ _ kx0
            have zx_wt8 := zx
            replace hb0 : Below w.heap.size w wt8 := (by repeat (first | with_reducible exact Below.refl _ _ | with_reducible assumption | with_reducible refine Below.setCell ?_ (by first | omega | (simp <;> omega)) _ | with_reducible refine balloc ?_ _ | with_reducible refine Below.drew ?_ | with_reducible refine bstep ?_ (by with_reducible assumption)))
            have hs_wt8 := hb.size; (try simp only [World.size_alloc, World.size_setCell] at hs_wt8)
            clear hb
            (try go_wp2_with fail)
            refine hKK.out _ _ (by first | (go_keep; done) | ((repeat' apply And.intro) <;> go_simp)) (fun hHeld => ?_)
            clear hKK KK
            try simp only [Act.put, List.setIfInBounds_toArray, List.set_cons_zero, List.set_cons_succ]
            refine wpAnyH_take (i := 3) (oi := ⟨some 77, _, _, _, _, _⟩) (v := ?_) rfl (by kernel_rfl) (by kernel_rfl) (by kernel_rfl) (fun _ _ _ h => h) (Or.inl ⟨by rfl, ?_⟩) (by assumption) ?_
            rotate_left
            · intro w hSw; (try dsimp only at hSw); go_simp; try with_reducible rfl
            try simp only [Act.put, List.setIfInBounds_toArray, List.set_cons_zero, List.set_cons_succ]
            refine wpAnyH_take (i := 4) (oi := ⟨some 81, _, _, _, _, _⟩) (v := ?_) rfl (by kernel_rfl) (by kernel_rfl) (by kernel_rfl) (fun _ _ _ h => h) (Or.inl ⟨by rfl, ?_⟩) (by assumption) ?_
            rotate_left
            · intro w hSw; (try dsimp only at hSw); go_simp; try with_reducible rfl
            try simp only [Act.put, List.setIfInBounds_toArray, List.set_cons_zero, List.set_cons_succ]
            refine wpAnyH_take (i := 5) (oi := ⟨some 82, _, _, _, _, _⟩) (v := ?_) rfl (by kernel_rfl) (by kernel_rfl) (by kernel_rfl) (fun _ _ _ h => h) (Or.inl ⟨by rfl, ?_⟩) (by assumption) ?_
            rotate_left
            · intro w hSw; (try dsimp only at hSw); go_simp; try with_reducible rfl
            try simp only [Act.put, List.setIfInBounds_toArray, List.set_cons_zero, List.set_cons_succ]
            refine wpAnyH_ready (rs := [7]) (by kernel_rfl) (by simp) ?_
            refine AllReadyH.cons (o := ⟨none, _, _, _, _, _⟩) rfl (fun KK hKK => ?_) AllReadyH.nil
            go_simp
            (try go_wp2_with fail)
            refine hKK.out _ _ (by first | (go_keep; done) | ((repeat' apply And.intro) <;> go_simp)) (fun hHeld => ?_)
            clear hKK KK
            try simp only [Act.put, List.setIfInBounds_toArray, List.set_cons_zero, List.set_cons_succ]
            refine wpAnyH_take (i := 8) (oi := ⟨some 21, _, _, _, _, _⟩) (v := ?_) rfl (by kernel_rfl) (by kernel_rfl) (by kernel_rfl) (fun _ _ _ h => h) (Or.inl ⟨by rfl, ?_⟩) (by assumption) ?_
            rotate_left
            · intro w hSw; (try dsimp only at hSw); go_simp; try with_reducible rfl
            try simp only [Act.put, List.setIfInBounds_toArray, List.set_cons_zero, List.set_cons_succ]
            refine wpAnyH_done (by kernel_rfl) ?_ _
            (try dsimp only [Exit.then, Met])
            go_wp2_with fail
            go_meet
            refine ⟨_, rfl, rfl, by first | omega | (simp; omega), ?_, ?_, ?_, ?_, ?_, ?_, ?_, ?_, ?_, ?_, ?_, ?_, ?_, ?_, ?_, ?_, ?_, ?_, ?_, ?_, ?_, ?_, ?_, ?_, ?_, ?_, ?_, ?_, ?_, ?_, ?_, ?_, ?_, ?_, ?_, ?_, ?_, ?_, ?_, ?_, ?_, ?_, ?_, ?_, ?_, ?_, ?_, ?_, ?_, ?_, (by repeat (first | with_reducible exact Below.refl _ _ | with_reducible assumption | with_reducible refine Below.setCell ?_ (by first | omega | (simp <;> omega)) _ | with_reducible refine balloc ?_ _ | with_reducible refine Below.drew ?_ | with_reducible refine bstep ?_ (by with_reducible assumption)))⟩
            all_goals first | (with_reducible assumption) | go_simp
        · go_simp
          (try go_wp2_with fail)
          refine hKK.out _ _ (by first | (go_keep; done) | ((repeat' apply And.intro) <;> go_simp)) (fun hHeld => ?_)
          clear hKK KK
          try simp only [Act.put, List.setIfInBounds_toArray, List.set_cons_zero, List.set_cons_succ]
          refine wpAnyH_ready (rs := [1]) (by kernel_rfl) (by simp) ?_
          refine AllReadyH.cons (o := ⟨some 79, _, _, _, _, _⟩) rfl (fun KK hKK => ?_) AllReadyH.nil
          go_simp
          refine Calls.mono (box_c 999999 1000000 (-1000000) (-999999) _) ?_
          rintro e wt7 ⟨rfl, hb⟩
          replace ki0 := cell_later hb (cell_al _ (cell_al _ ki0))
          replace ki1 := cell_later hb (cell_al _ (cell_al _ ki1))
          replace ki2 := cell_later hb (cell_al _ (cell_al _ ki2))
          replace ki3 := cell_later hb (cell_al _ (cell_al _ ki3))
          replace kd0 := cell_later hb (cell_al _ (cell_al _ kd0))
          replace kd1 := cell_later hb (cell_al _ (cell_al _ kd1))
          replace kd2 := cell_later hb (cell_al _ (cell_al _ kd2))
          replace kd3 := cell_later hb (cell_al _ (cell_al _ kd3))
          replace km0 := cell_later hb (cell_al _ (cell_al _ km0))
          replace km1 := cell_later hb (cell_al _ (cell_al _ km1))
          replace km2 := cell_later hb (cell_al _ (cell_al _ km2))
          replace km3 := cell_later hb (cell_al _ (cell_al _ km3))
          replace km4 := cell_later hb (cell_al _ (cell_al _ km4))
          replace km5 := cell_later hb (cell_al _ (cell_al _ km5))
          replace km6 := cell_later hb (cell_al _ (cell_al _ km6))
          replace kn0 := cell_later hb (cell_al _ (cell_al _ kn0))
          replace kn1 := cell_later hb (cell_al _ (cell_al _ kn1))
          replace kn2 := cell_later hb (cell_al _ (cell_al _ kn2))
          replace kn3 := cell_later hb (cell_al _ (cell_al _ kn3))
          replace kn4 := cell_later hb (cell_al _ (cell_al _ kn4))
          replace kn5 := cell_later hb (cell_al _ (cell_al _ kn5))
          replace kn6 := cell_later hb (cell_al _ (cell_al _ kn6))
          replace kp0 := cell_later hb (cell_al _ (cell_al _ kp0))
          replace kp1 := cell_later hb (cell_al _ (cell_al _ kp1))
          replace kc0 := cell_later hb (cell_al _ (cell_al _ kc0))
          replace kc1 := cell_later hb (cell_al _ (cell_al _ kc1))
          replace kc2 := cell_later hb (cell_al _ (cell_al _ kc2))
          replace kc3 := cell_later hb (cell_al _ (cell_al _ kc3))
          replace kl0 := cell_later hb (cell_al _ (cell_al _ kl0))
          replace kl1 := cell_later hb (cell_al _ (cell_al _ kl1))
          replace kl2 := cell_later hb (cell_al _ (cell_al _ kl2))
          replace kl3 := cell_later hb (cell_al _ (cell_al _ kl3))
          replace kl4 := cell_later hb (cell_al _ (cell_al _ kl4))
          replace kl5 := cell_later hb (cell_al _ (cell_al _ kl5))
          replace kl6 := cell_later hb (cell_al _ (cell_al _ kl6))
          replace kq0 := cell_later hb (cell_al _ (cell_al _ kq0))
          replace kq1 := cell_later hb (cell_al _ (cell_al _ kq1))
          replace kq2 := cell_later hb (cell_al _ (cell_al _ kq2))
          replace kq3 := cell_later hb (cell_al _ (cell_al _ kq3))
          replace kq4 := cell_later hb (cell_al _ (cell_al _ kq4))
          replace kq5 := cell_later hb (cell_al _ (cell_al _ kq5))
          replace kq6 := cell_later hb (cell_al _ (cell_al _ kq6))
          have ky0 : wt7.cell? ⟨w6.heap.size, 0, none⟩ = some (.int .i64 0) := cell_later hb (by go_simp)
          have ky1 : wt7.cell? ⟨w6.heap.size, 1, none⟩ = some (.int .i64 0) := cell_later hb (by go_simp)
          have ky2 : wt7.cell? ⟨w6.heap.size, 2, none⟩ = some (.int .i64 0) := cell_later hb (by go_simp)
          have ky3 : wt7.cell? ⟨w6.heap.size, 3, none⟩ = some (.int .i64 0) := cell_later hb (by go_simp)
          have kx0 : wt7.cell? ⟨w6.heap.size + 1, 0, none⟩ = some (.int .i64 0) := cell_later hb (by go_simp)
          have jx0 : wt7.frozen? ⟨w6.heap.size + 1, 0, none⟩ = false := by rw [(bcell hb).2 _ _ (by first | omega | (simp <;> omega))]; go_simp
          have kx1 : wt7.cell? ⟨w6.heap.size + 1, 1, none⟩ = some (.int .i64 0) := cell_later hb (by go_simp)
          have jx1 : wt7.frozen? ⟨w6.heap.size + 1, 1, none⟩ = false := by rw [(bcell hb).2 _ _ (by first | omega | (simp <;> omega))]; go_simp
          have kx2 : wt7.cell? ⟨w6.heap.size + 1, 2, none⟩ = some (.int .i64 0) := cell_later hb (by go_simp)
          have jx2 : wt7.frozen? ⟨w6.heap.size + 1, 2, none⟩ = false := by rw [(bcell hb).2 _ _ (by first | omega | (simp <;> omega))]; go_simp
          have kx3 : wt7.cell? ⟨w6.heap.size + 1, 3, none⟩ = some (.int .i64 0) := cell_later hb (by go_simp)
          have jx3 : wt7.frozen? ⟨w6.heap.size + 1, 3, none⟩ = false := by rw [(bcell hb).2 _ _ (by first | omega | (simp <;> omega))]; go_simp
          replace zi : gi < wt7.heap.size := World.block_lt_of_cell? _ _ ki0
          have zi_wt7 := zi
          replace zd : gd < wt7.heap.size := World.block_lt_of_cell? _ _ kd0
          have zd_wt7 := zd
          replace zm : w.heap.size < wt7.heap.size := World.block_lt_of_cell? _ _ km0
          have zm_wt7 := zm
          replace zn : w.heap.size + 1 < wt7.heap.size := World.block_lt_of_cell? _ _ kn0
          have zn_wt7 := zn
          replace zp : w.heap.size + 1 + 1 < wt7.heap.size := World.block_lt_of_cell? _ _ kp0
          have zp_wt7 := zp
          replace zc : w3.heap.size < wt7.heap.size := World.block_lt_of_cell? _ _ kc0
          have zc_wt7 := zc
          replace zl : w4.heap.size < wt7.heap.size := World.block_lt_of_cell? _ _ kl0
          have zl_wt7 := zl
          replace zq : w5.heap.size < wt7.heap.size := World.block_lt_of_cell? _ _ kq0
          have zq_wt7 := zq
          have zy : w6.heap.size < wt7.heap.size := World.block_lt_of_cell? _ _ ky0
          have zy_wt7 := zy
          have zx : w6.heap.size + 1 < wt7.heap.size := World.block_lt_of_cell? _ _ kx0
          have zx_wt7 := zx
          replace hb0 : Below w.heap.size w wt7 := (by repeat (first | with_reducible exact Below.refl _ _ | with_reducible assumption | with_reducible refine Below.setCell ?_ (by first | omega | (simp <;> omega)) _ | with_reducible refine balloc ?_ _ | with_reducible refine Below.drew ?_ | with_reducible refine bstep ?_ (by with_reducible assumption)))
          have hs_wt7 := hb.size; (try simp only [World.size_alloc, World.size_setCell] at hs_wt7)
          clear hb
          (try go_wp2_with fail)
          refine hKK.out _ _ (by first | (go_keep; done) | ((repeat' apply And.intro) <;> go_simp)) (fun hHeld => ?_)
          clear hKK KK
          try simp only [Act.put, List.setIfInBounds_toArray, List.set_cons_zero, List.set_cons_succ]
          refine wpAnyH_ready (rs := [2]) (by kernel_rfl) (by simp) ?_
          refine AllReadyH.cons (o := ⟨some 80, _, _, _, _, _⟩) rfl (fun KK hKK => ?_) AllReadyH.nil
          go_simp
          refine Calls.mono (ex8 _) ?_
          rintro e wt8 ⟨rfl, hb⟩
          replace ki0 := cell_later hb ki0
          replace ki1 := cell_later hb ki1
          replace ki2 := cell_later hb ki2
          replace ki3 := cell_later hb ki3
          replace kd0 := cell_later hb kd0
          replace kd1 := cell_later hb kd1
          replace kd2 := cell_later hb kd2
          replace kd3 := cell_later hb kd3
          replace km0 := cell_later hb km0
          replace km1 := cell_later hb km1
          replace km2 := cell_later hb km2
          replace km3 := cell_later hb km3
          replace km4 := cell_later hb km4
          replace km5 := cell_later hb km5
          replace km6 := cell_later hb km6
          replace kn0 := cell_later hb kn0
          replace kn1 := cell_later hb kn1
          replace kn2 := cell_later hb kn2
          replace kn3 := cell_later hb kn3
          replace kn4 := cell_later hb kn4
          replace kn5 := cell_later hb kn5
          replace kn6 := cell_later hb kn6
          replace kp0 := cell_later hb kp0
          replace kp1 := cell_later hb kp1
          replace kc0 := cell_later hb kc0
          replace kc1 := cell_later hb kc1
          replace kc2 := cell_later hb kc2
          replace kc3 := cell_later hb kc3
          replace kl0 := cell_later hb kl0
          replace kl1 := cell_later hb kl1
          replace kl2 := cell_later hb kl2
          replace kl3 := cell_later hb kl3
          replace kl4 := cell_later hb kl4
          replace kl5 := cell_later hb kl5
          replace kl6 := cell_later hb kl6
          replace kq0 := cell_later hb kq0
          replace kq1 := cell_later hb kq1
          replace kq2 := cell_later hb kq2
          replace kq3 := cell_later hb kq3
          replace kq4 := cell_later hb kq4
          replace kq5 := cell_later hb kq5
          replace kq6 := cell_later hb kq6
          replace ky0 := cell_later hb ky0
          replace ky1 := cell_later hb ky1
          replace ky2 := cell_later hb ky2
          replace ky3 := cell_later hb ky3
          replace jx0 := fro_later hb kx0 jx0
          replace kx0 := cell_later hb kx0
          replace jx1 := fro_later hb kx1 jx1
          replace kx1 := cell_later hb kx1
          replace jx2 := fro_later hb kx2 jx2
          replace kx2 := cell_later hb kx2
          replace jx3 := fro_later hb kx3 jx3
          replace kx3 := cell_later hb kx3
          replace zi : gi < wt8.heap.size := World.block_lt_of_cell? _ _ ki0
          have zi_wt8 := zi
          replace zd : gd < wt8.heap.size := World.block_lt_of_cell? _ _ kd0
          have zd_wt8 := zd
          replace zm : w.heap.size < wt8.heap.size := World.block_lt_of_cell? _ _ km0
          have zm_wt8 := zm
          replace zn : w.heap.size + 1 < wt8.heap.size := World.block_lt_of_cell? _ _ kn0
          have zn_wt8 := zn
          replace zp : w.heap.size + 1 + 1 < wt8.heap.size := World.block_lt_of_cell? _ _ kp0
          have zp_wt8 := zp
          replace zc : w3.heap.size < wt8.heap.size := World.block_lt_of_cell? _ _ kc0
          have zc_wt8 := zc
          replace zl : w4.heap.size < wt8.heap.size := World.block_lt_of_cell? _ _ kl0
          have zl_wt8 := zl
          replace zq : w5.heap.size < wt8.heap.size := World.block_lt_of_cell? _ _ kq0
          have zq_wt8 := zq
          replace zy : w6.heap.size < wt8.heap.size := World.block_lt_of_cell? _ _ ky0
          have zy_wt8 := zy
          replace zx : w6.heap.size + 1 < wt8.heap.size := World.block_lt_of_cell? _ _ kx0
          have zx_wt8 := zx
          replace hb0 : Below w.heap.size w wt8 := (by repeat (first | with_reducible exact Below.refl _ _ | with_reducible assumption | with_reducible refine Below.setCell ?_ (by first | omega | (simp <;> omega)) _ | with_reducible refine balloc ?_ _ | with_reducible refine Below.drew ?_ | with_reducible refine bstep ?_ (by with_reducible assumption)))
          have hs_wt8 : wt7.heap.size ≤ wt8.heap.size := hb.size
          clear hb
          (try go_wp2_with fail)
          refine hKK.out _ _ (by first | (go_keep; done) | ((repeat' apply And.intro) <;> go_simp)) (fun hHeld => ?_)
          clear hKK KK
          try simp only [Act.put, List.setIfInBounds_toArray, List.set_cons_zero, List.set_cons_succ]
          refine wpAnyH_take (i := 3) (oi := ⟨some 77, _, _, _, _, _⟩) (v := ?_) rfl (by kernel_rfl) (by kernel_rfl) (by kernel_rfl) (fun _ _ _ h => h) (Or.inl ⟨by rfl, ?_⟩) (by assumption) ?_
          rotate_left
          · intro w hSw; (try dsimp only at hSw); go_simp; try with_reducible rfl
          try simp only [Act.put, List.setIfInBounds_toArray, List.set_cons_zero, List.set_cons_succ]
          refine wpAnyH_take (i := 4) (oi := ⟨some 81, _, _, _, _, _⟩) (v := ?_) rfl (by kernel_rfl) (by kernel_rfl) (by kernel_rfl) (fun _ _ _ h => h) (Or.inl ⟨by rfl, ?_⟩) (by assumption) ?_
          rotate_left
          · intro w hSw; (try dsimp only at hSw); go_simp; try with_reducible rfl
          try simp only [Act.put, List.setIfInBounds_toArray, List.set_cons_zero, List.set_cons_succ]
          refine wpAnyH_take (i := 5) (oi := ⟨some 82, _, _, _, _, _⟩) (v := ?_) rfl (by kernel_rfl) (by kernel_rfl) (by kernel_rfl) (fun _ _ _ h => h) (Or.inl ⟨by rfl, ?_⟩) (by assumption) ?_
          rotate_left
          · intro w hSw; (try dsimp only at hSw); go_simp; try with_reducible rfl
          try simp only [Act.put, List.setIfInBounds_toArray, List.set_cons_zero, List.set_cons_succ]
          refine wpAnyH_ready (rs := [7]) (by kernel_rfl) (by simp) ?_
          refine AllReadyH.cons (o := ⟨none, _, _, _, _, _⟩) rfl (fun KK hKK => ?_) AllReadyH.nil
          go_simp
          (try go_wp2_with fail)
          refine hKK.out _ _ (by first | (go_keep; done) | ((repeat' apply And.intro) <;> go_simp)) (fun hHeld => ?_)
          clear hKK KK
          try simp only [Act.put, List.setIfInBounds_toArray, List.set_cons_zero, List.set_cons_succ]
          refine wpAnyH_take (i := 8) (oi := ⟨some 21, _, _, _, _, _⟩) (v := ?_) rfl (by kernel_rfl) (by kernel_rfl) (by kernel_rfl) (fun _ _ _ h => h) (Or.inl ⟨by rfl, ?_⟩) (by assumption) ?_
          rotate_left
          · intro w hSw; (try dsimp only at hSw); go_simp; try with_reducible rfl
          try simp only [Act.put, List.setIfInBounds_toArray, List.set_cons_zero, List.set_cons_succ]
          refine wpAnyH_done (by kernel_rfl) ?_ _
          (try dsimp only [Exit.then, Met])
          go_wp2_with fail
          go_meet
          refine ⟨_, rfl, rfl, by first | omega | (simp; omega), ?_, ?_, ?_, ?_, ?_, ?_, ?_, ?_, ?_, ?_, ?_, ?_, ?_, ?_, ?_, ?_, ?_, ?_, ?_, ?_, ?_, ?_, ?_, ?_, ?_, ?_, ?_, ?_, ?_, ?_, ?_, ?_, ?_, ?_, ?_, ?_, ?_, ?_, ?_, ?_, ?_, ?_, ?_, ?_, ?_, ?_, ?_, ?_, ?_, ?_, (by repeat (first | with_reducible exact Below.refl _ _ | with_reducible assumption | with_reducible refine Below.setCell ?_ (by first | omega | (simp <;> omega)) _ | with_reducible refine balloc ?_ _ | with_reducible refine Below.drew ?_ | with_reducible refine bstep ?_ (by with_reducible assumption)))⟩
          all_goals first | (with_reducible assumption) | go_simp
      case rest =>
        rename World => wcd
        obtain ⟨gx, rfl, rfl, lgx, kx0, kx1, kx2, kx3, ki0, ki1, ki2, ki3, kd0, kd1, kd2, kd3, km0, km1, km2, km3, km4, km5, km6, kn0, kn1, kn2, kn3, kn4, kn5, kn6, kp0, kp1, kc0, kc1, kc2, kc3, kl0, kl1, kl2, kl3, kl4, kl5, kl6, kq0, kq1, kq2, kq3, kq4, kq5, kq6, ky0, ky1, ky2, ky3, hb0⟩ := hcut
        have zx : gx < wcd.heap.size := World.block_lt_of_cell? _ _ kx0
        have zx_wcd := zx
        have zi : gi < wcd.heap.size := World.block_lt_of_cell? _ _ ki0
        have zi_wcd := zi
        have zd : gd < wcd.heap.size := World.block_lt_of_cell? _ _ kd0
        have zd_wcd := zd
        have zm : w.heap.size < wcd.heap.size := World.block_lt_of_cell? _ _ km0
        have zm_wcd := zm
        have zn : w.heap.size + 1 < wcd.heap.size := World.block_lt_of_cell? _ _ kn0
        have zn_wcd := zn
        have zp : w.heap.size + 1 + 1 < wcd.heap.size := World.block_lt_of_cell? _ _ kp0
        have zp_wcd := zp
        have zc : w3.heap.size < wcd.heap.size := World.block_lt_of_cell? _ _ kc0
        have zc_wcd := zc
        have zl : w4.heap.size < wcd.heap.size := World.block_lt_of_cell? _ _ kl0
        have zl_wcd := zl
        have zq : w5.heap.size < wcd.heap.size := World.block_lt_of_cell? _ _ kq0
        have zq_wcd := zq
        have zy : w6.heap.size < wcd.heap.size := World.block_lt_of_cell? _ _ ky0
        have zy_wcd := zy
        go_wp2_with fail
        refine Calls.mono (box_c 999999 1000000 0 0 _) ?_
        rintro e w7 ⟨rfl, hb⟩
        replace kx0 := cell_later hb kx0
        replace kx1 := cell_later hb kx1
        replace kx2 := cell_later hb kx2
        replace kx3 := cell_later hb kx3
        replace ki0 := cell_later hb ki0
        replace ki1 := cell_later hb ki1
        replace ki2 := cell_later hb ki2
        replace ki3 := cell_later hb ki3
        replace kd0 := cell_later hb kd0
        replace kd1 := cell_later hb kd1
        replace kd2 := cell_later hb kd2
        replace kd3 := cell_later hb kd3
        replace km0 := cell_later hb km0
        replace km1 := cell_later hb km1
        replace km2 := cell_later hb km2
        replace km3 := cell_later hb km3
        replace km4 := cell_later hb km4
        replace km5 := cell_later hb km5
        replace km6 := cell_later hb km6
        replace kn0 := cell_later hb kn0
        replace kn1 := cell_later hb kn1
        replace kn2 := cell_later hb kn2
        replace kn3 := cell_later hb kn3
        replace kn4 := cell_later hb kn4
        replace kn5 := cell_later hb kn5
        replace kn6 := cell_later hb kn6
        replace kp0 := cell_later hb kp0
        replace kp1 := cell_later hb kp1
        replace kc0 := cell_later hb kc0
        replace kc1 := cell_later hb kc1
        replace kc2 := cell_later hb kc2
        replace kc3 := cell_later hb kc3
        replace kl0 := cell_later hb kl0
        replace kl1 := cell_later hb kl1
        replace kl2 := cell_later hb kl2
        replace kl3 := cell_later hb kl3
        replace kl4 := cell_later hb kl4
        replace kl5 := cell_later hb kl5
        replace kl6 := cell_later hb kl6
        replace kq0 := cell_later hb kq0
        replace kq1 := cell_later hb kq1
        replace kq2 := cell_later hb kq2
        replace kq3 := cell_later hb kq3
        replace kq4 := cell_later hb kq4
        replace kq5 := cell_later hb kq5
        replace kq6 := cell_later hb kq6
        replace ky0 := cell_later hb ky0
        replace ky1 := cell_later hb ky1
        replace ky2 := cell_later hb ky2
        replace ky3 := cell_later hb ky3
        replace zx : gx < w7.heap.size := World.block_lt_of_cell? _ _ kx0
        have zx_w7 := zx
        replace zi : gi < w7.heap.size := World.block_lt_of_cell? _ _ ki0
        have zi_w7 := zi
        replace zd : gd < w7.heap.size := World.block_lt_of_cell? _ _ kd0
        have zd_w7 := zd
        replace zm : w.heap.size < w7.heap.size := World.block_lt_of_cell? _ _ km0
        have zm_w7 := zm
        replace zn : w.heap.size + 1 < w7.heap.size := World.block_lt_of_cell? _ _ kn0
        have zn_w7 := zn
        replace zp : w.heap.size + 1 + 1 < w7.heap.size := World.block_lt_of_cell? _ _ kp0
        have zp_w7 := zp
        replace zc : w3.heap.size < w7.heap.size := World.block_lt_of_cell? _ _ kc0
        have zc_w7 := zc
        replace zl : w4.heap.size < w7.heap.size := World.block_lt_of_cell? _ _ kl0
        have zl_w7 := zl
        replace zq : w5.heap.size < w7.heap.size := World.block_lt_of_cell? _ _ kq0
        have zq_w7 := zq
        replace zy : w6.heap.size < w7.heap.size := World.block_lt_of_cell? _ _ ky0
        have zy_w7 := zy
        replace hb0 : Below w.heap.size w w7 := (by repeat (first | with_reducible exact Below.refl _ _ | with_reducible assumption | with_reducible refine Below.setCell ?_ (by first | omega | (simp <;> omega)) _ | with_reducible refine balloc ?_ _ | with_reducible refine Below.drew ?_ | with_reducible refine bstep ?_ (by with_reducible assumption)))
        have hs_w7 : wcd.heap.size ≤ w7.heap.size := hb.size
        clear hb
        go_wp2_with fail
        refine Calls.mono (ex9 _) ?_
        rintro e w8 ⟨rfl, hb⟩
        replace kx0 := cell_later hb kx0
        replace kx1 := cell_later hb kx1
        replace kx2 := cell_later hb kx2
        replace kx3 := cell_later hb kx3
        replace ki0 := cell_later hb ki0
        replace ki1 := cell_later hb ki1
        replace ki2 := cell_later hb ki2
        replace ki3 := cell_later hb ki3
        replace kd0 := cell_later hb kd0
        replace kd1 := cell_later hb kd1
        replace kd2 := cell_later hb kd2
        replace kd3 := cell_later hb kd3
        replace km0 := cell_later hb km0
        replace km1 := cell_later hb km1
        replace km2 := cell_later hb km2
        replace km3 := cell_later hb km3
        replace km4 := cell_later hb km4
        replace km5 := cell_later hb km5
        replace km6 := cell_later hb km6
        replace kn0 := cell_later hb kn0
        replace kn1 := cell_later hb kn1
        replace kn2 := cell_later hb kn2
        replace kn3 := cell_later hb kn3
        replace kn4 := cell_later hb kn4
        replace kn5 := cell_later hb kn5
        replace kn6 := cell_later hb kn6
        replace kp0 := cell_later hb kp0
        replace kp1 := cell_later hb kp1
        replace kc0 := cell_later hb kc0
        replace kc1 := cell_later hb kc1
        replace kc2 := cell_later hb kc2
        replace kc3 := cell_later hb kc3
        replace kl0 := cell_later hb kl0
        replace kl1 := cell_later hb kl1
        replace kl2 := cell_later hb kl2
        replace kl3 := cell_later hb kl3
        replace kl4 := cell_later hb kl4
        replace kl5 := cell_later hb kl5
        replace kl6 := cell_later hb kl6
        replace kq0 := cell_later hb kq0
        replace kq1 := cell_later hb kq1
        replace kq2 := cell_later hb kq2
        replace kq3 := cell_later hb kq3
        replace kq4 := cell_later hb kq4
        replace kq5 := cell_later hb kq5
        replace kq6 := cell_later hb kq6
        replace ky0 := cell_later hb ky0
        replace ky1 := cell_later hb ky1
        replace ky2 := cell_later hb ky2
        replace ky3 := cell_later hb ky3
        replace zx : gx < w8.heap.size := World.block_lt_of_cell? _ _ kx0
        have zx_w8 := zx
        replace zi : gi < w8.heap.size := World.block_lt_of_cell? _ _ ki0
        have zi_w8 := zi
        replace zd : gd < w8.heap.size := World.block_lt_of_cell? _ _ kd0
        have zd_w8 := zd
        replace zm : w.heap.size < w8.heap.size := World.block_lt_of_cell? _ _ km0
        have zm_w8 := zm
        replace zn : w.heap.size + 1 < w8.heap.size := World.block_lt_of_cell? _ _ kn0
        have zn_w8 := zn
        replace zp : w.heap.size + 1 + 1 < w8.heap.size := World.block_lt_of_cell? _ _ kp0
        have zp_w8 := zp
        replace zc : w3.heap.size < w8.heap.size := World.block_lt_of_cell? _ _ kc0
        have zc_w8 := zc
        replace zl : w4.heap.size < w8.heap.size := World.block_lt_of_cell? _ _ kl0
        have zl_w8 := zl
        replace zq : w5.heap.size < w8.heap.size := World.block_lt_of_cell? _ _ kq0
        have zq_w8 := zq
        replace zy : w6.heap.size < w8.heap.size := World.block_lt_of_cell? _ _ ky0
        have zy_w8 := zy
        replace hb0 : Below w.heap.size w w8 := (by repeat (first | with_reducible exact Below.refl _ _ | with_reducible assumption | with_reducible refine Below.setCell ?_ (by first | omega | (simp <;> omega)) _ | with_reducible refine balloc ?_ _ | with_reducible refine Below.drew ?_ | with_reducible refine bstep ?_ (by with_reducible assumption)))
        have hs_w8 : w7.heap.size ≤ w8.heap.size := hb.size
        clear hb
        go_wp2_with fail
        go_region_held3 (fun w' => w'.cell? ⟨gi, 0, none⟩ = some (.int .i64 2) ∧ w'.cell? ⟨gi, 1, none⟩ = some (.int .i64 4) ∧ w'.cell? ⟨gi, 2, none⟩ = some (.int .i64 3) ∧ w'.cell? ⟨gi, 3, none⟩ = some (.int .i64 5) ∧ w'.cell? ⟨gd, 0, none⟩ = some (.int .i64 (-11)) ∧ w'.cell? ⟨gd, 1, none⟩ = some (.int .i64 11) ∧ w'.cell? ⟨gd, 2, none⟩ = some (.int .i64 (-1)) ∧ w'.cell? ⟨gd, 3, none⟩ = some (.int .i64 11) ∧ w'.cell? ⟨w3.heap.size, 0, none⟩ = some (.int .i64 5) ∧ w'.cell? ⟨w3.heap.size, 1, none⟩ = some (.int .i64 7) ∧ w'.cell? ⟨w3.heap.size, 2, none⟩ = some (.int .i64 2) ∧ w'.cell? ⟨w3.heap.size, 3, none⟩ = some (.int .i64 4)) (first | (go_keep; done) | ((repeat' apply And.intro) <;> go_simp)) (first | (go_at_call 27; refine Calls.mono (box_c _ _ _ _ _) ?_; rintro e wr ⟨rfl, hb⟩; have kx0 : wr.cell? ⟨gx, 0, none⟩ = some (.int .i64 (-1000000)) := cell_later hb (by first | (with_reducible assumption) | go_simp); have kx1 : wr.cell? ⟨gx, 1, none⟩ = some (.int .i64 (-999998)) := cell_later hb (by first | (with_reducible assumption) | go_simp); have kx2 : wr.cell? ⟨gx, 2, none⟩ = some (.int .i64 (-999991)) := cell_later hb (by first | (with_reducible assumption) | go_simp); have kx3 : wr.cell? ⟨gx, 3, none⟩ = some (.int .i64 (-999988)) := cell_later hb (by first | (with_reducible assumption) | go_simp); have zx : gx < wr.heap.size := World.block_lt_of_cell? _ _ kx0; have ki0 : wr.cell? ⟨gi, 0, none⟩ = some (.int .i64 2) := cell_later hb (by first | (with_reducible assumption) | go_simp); have ki1 : wr.cell? ⟨gi, 1, none⟩ = some (.int .i64 4) := cell_later hb (by first | (with_reducible assumption) | go_simp); have ki2 : wr.cell? ⟨gi, 2, none⟩ = some (.int .i64 3) := cell_later hb (by first | (with_reducible assumption) | go_simp); have ki3 : wr.cell? ⟨gi, 3, none⟩ = some (.int .i64 5) := cell_later hb (by first | (with_reducible assumption) | go_simp); have zi : gi < wr.heap.size := World.block_lt_of_cell? _ _ ki0; have kd0 : wr.cell? ⟨gd, 0, none⟩ = some (.int .i64 (-11)) := cell_later hb (by first | (with_reducible assumption) | go_simp); have kd1 : wr.cell? ⟨gd, 1, none⟩ = some (.int .i64 11) := cell_later hb (by first | (with_reducible assumption) | go_simp); have kd2 : wr.cell? ⟨gd, 2, none⟩ = some (.int .i64 (-1)) := cell_later hb (by first | (with_reducible assumption) | go_simp); have kd3 : wr.cell? ⟨gd, 3, none⟩ = some (.int .i64 11) := cell_later hb (by first | (with_reducible assumption) | go_simp); have zd : gd < wr.heap.size := World.block_lt_of_cell? _ _ kd0; have km0 : wr.cell? ⟨w.heap.size, 0, none⟩ = some (.int .i64 0) := cell_later hb (by first | (with_reducible assumption) | go_simp); have km1 : wr.cell? ⟨w.heap.size, 1, none⟩ = some (.int .i64 (-1000000)) := cell_later hb (by first | (with_reducible assumption) | go_simp); have km2 : wr.cell? ⟨w.heap.size, 2, none⟩ = some (.int .i64 10) := cell_later hb (by first | (with_reducible assumption) | go_simp); have km3 : wr.cell? ⟨w.heap.size, 3, none⟩ = some (.int .i64 1000000) := cell_later hb (by first | (with_reducible assumption) | go_simp); have km4 : wr.cell? ⟨w.heap.size, 4, none⟩ = some (.int .i64 0) := cell_later hb (by first | (with_reducible assumption) | go_simp); have km5 : wr.cell? ⟨w.heap.size, 5, none⟩ = some (.int .i64 0) := cell_later hb (by first | (with_reducible assumption) | go_simp); have km6 : wr.cell? ⟨w.heap.size, 6, none⟩ = some (.int .i64 1) := cell_later hb (by first | (with_reducible assumption) | go_simp); have zm : w.heap.size < wr.heap.size := World.block_lt_of_cell? _ _ km0; have kn0 : wr.cell? ⟨w.heap.size + 1, 0, none⟩ = some (.int .i64 1000000) := cell_later hb (by first | (with_reducible assumption) | go_simp); have kn1 : wr.cell? ⟨w.heap.size + 1, 1, none⟩ = some (.int .i64 0) := cell_later hb (by first | (with_reducible assumption) | go_simp); have kn2 : wr.cell? ⟨w.heap.size + 1, 2, none⟩ = some (.int .i64 5) := cell_later hb (by first | (with_reducible assumption) | go_simp); have kn3 : wr.cell? ⟨w.heap.size + 1, 3, none⟩ = some (.int .i64 0) := cell_later hb (by first | (with_reducible assumption) | go_simp); have kn4 : wr.cell? ⟨w.heap.size + 1, 4, none⟩ = some (.int .i64 1000000) := cell_later hb (by first | (with_reducible assumption) | go_simp); have kn5 : wr.cell? ⟨w.heap.size + 1, 5, none⟩ = some (.int .i64 5) := cell_later hb (by first | (with_reducible assumption) | go_simp); have kn6 : wr.cell? ⟨w.heap.size + 1, 6, none⟩ = some (.int .i64 0) := cell_later hb (by first | (with_reducible assumption) | go_simp); have zn : w.heap.size + 1 < wr.heap.size := World.block_lt_of_cell? _ _ kn0; have kp0 : wr.cell? ⟨w.heap.size + 1 + 1, 0, none⟩ = some (.int .i64 3) := cell_later hb (by first | (with_reducible assumption) | go_simp); have kp1 : wr.cell? ⟨w.heap.size + 1 + 1, 1, none⟩ = some (.int .i64 4) := cell_later hb (by first | (with_reducible assumption) | go_simp); have zp : w.heap.size + 1 + 1 < wr.heap.size := World.block_lt_of_cell? _ _ kp0; have kc0 : wr.cell? ⟨w3.heap.size, 0, none⟩ = some (.int .i64 5) := cell_later hb (by first | (with_reducible assumption) | go_simp); have kc1 : wr.cell? ⟨w3.heap.size, 1, none⟩ = some (.int .i64 7) := cell_later hb (by first | (with_reducible assumption) | go_simp); have kc2 : wr.cell? ⟨w3.heap.size, 2, none⟩ = some (.int .i64 2) := cell_later hb (by first | (with_reducible assumption) | go_simp); have kc3 : wr.cell? ⟨w3.heap.size, 3, none⟩ = some (.int .i64 4) := cell_later hb (by first | (with_reducible assumption) | go_simp); have zc : w3.heap.size < wr.heap.size := World.block_lt_of_cell? _ _ kc0; have kl0 : wr.cell? ⟨w4.heap.size, 0, none⟩ = some (.int .i64 0) := cell_later hb (by first | (with_reducible assumption) | go_simp); have kl1 : wr.cell? ⟨w4.heap.size, 1, none⟩ = some (.int .i64 (-1000000)) := cell_later hb (by first | (with_reducible assumption) | go_simp); have kl2 : wr.cell? ⟨w4.heap.size, 2, none⟩ = some (.int .i64 15) := cell_later hb (by first | (with_reducible assumption) | go_simp); have kl3 : wr.cell? ⟨w4.heap.size, 3, none⟩ = some (.int .i64 1000000) := cell_later hb (by first | (with_reducible assumption) | go_simp); have kl4 : wr.cell? ⟨w4.heap.size, 4, none⟩ = some (.int .i64 0) := cell_later hb (by first | (with_reducible assumption) | go_simp); have kl5 : wr.cell? ⟨w4.heap.size, 5, none⟩ = some (.int .i64 5) := cell_later hb (by first | (with_reducible assumption) | go_simp); have kl6 : wr.cell? ⟨w4.heap.size, 6, none⟩ = some (.int .i64 3) := cell_later hb (by first | (with_reducible assumption) | go_simp); have zl : w4.heap.size < wr.heap.size := World.block_lt_of_cell? _ _ kl0; have kq0 : wr.cell? ⟨w5.heap.size, 0, none⟩ = some (.int .i64 0) := cell_later hb (by first | (with_reducible assumption) | go_simp); have kq1 : wr.cell? ⟨w5.heap.size, 1, none⟩ = some (.int .i64 1000000) := cell_later hb (by first | (with_reducible assumption) | go_simp); have kq2 : wr.cell? ⟨w5.heap.size, 2, none⟩ = some (.int .i64 0) := cell_later hb (by first | (with_reducible assumption) | go_simp); have kq3 : wr.cell? ⟨w5.heap.size, 3, none⟩ = some (.int .i64 (-1000000)) := cell_later hb (by first | (with_reducible assumption) | go_simp); have kq4 : wr.cell? ⟨w5.heap.size, 4, none⟩ = some (.int .i64 0) := cell_later hb (by first | (with_reducible assumption) | go_simp); have kq5 : wr.cell? ⟨w5.heap.size, 5, none⟩ = some (.int .i64 10) := cell_later hb (by first | (with_reducible assumption) | go_simp); have kq6 : wr.cell? ⟨w5.heap.size, 6, none⟩ = some (.int .i64 4) := cell_later hb (by first | (with_reducible assumption) | go_simp); have zq : w5.heap.size < wr.heap.size := World.block_lt_of_cell? _ _ kq0; have ky0 : wr.cell? ⟨w6.heap.size, 0, none⟩ = some (.int .i64 0) := cell_later hb (by first | (with_reducible assumption) | go_simp); have ky1 : wr.cell? ⟨w6.heap.size, 1, none⟩ = some (.int .i64 0) := cell_later hb (by first | (with_reducible assumption) | go_simp); have ky2 : wr.cell? ⟨w6.heap.size, 2, none⟩ = some (.int .i64 0) := cell_later hb (by first | (with_reducible assumption) | go_simp); have ky3 : wr.cell? ⟨w6.heap.size, 3, none⟩ = some (.int .i64 0) := cell_later hb (by first | (with_reducible assumption) | go_simp); have zy : w6.heap.size < wr.heap.size := World.block_lt_of_cell? _ _ ky0; have ku0 : wr.cell? ⟨w8.heap.size, 0, none⟩ = some (.int .i64 0) := cell_later hb (by first | (with_reducible assumption) | go_simp); have ku1 : wr.cell? ⟨w8.heap.size, 1, none⟩ = some (.int .i64 0) := cell_later hb (by first | (with_reducible assumption) | go_simp); have ku2 : wr.cell? ⟨w8.heap.size, 2, none⟩ = some (.int .i64 0) := cell_later hb (by first | (with_reducible assumption) | go_simp); have ku3 : wr.cell? ⟨w8.heap.size, 3, none⟩ = some (.int .i64 0) := cell_later hb (by first | (with_reducible assumption) | go_simp); have zu : w8.heap.size < wr.heap.size := World.block_lt_of_cell? _ _ ku0; have hb0 : Below w.heap.size w wr := (by repeat (first | with_reducible exact Below.refl _ _ | with_reducible assumption | with_reducible refine Below.setCell ?_ (by first | omega | (simp <;> omega)) _ | with_reducible refine balloc ?_ _ | with_reducible refine Below.drew ?_ | with_reducible refine bstep ?_ (by with_reducible assumption))); clear hb))
        go_wp2_with fail
        refine Calls.mono (Valid_c 0 (-1000000) 10 1000000 0 0 1 _) ?_
        rintro e w9 ⟨rfl, hb⟩
        replace kx0 := cell_later hb kx0
        replace kx1 := cell_later hb kx1
        replace kx2 := cell_later hb kx2
        replace kx3 := cell_later hb kx3
        replace ki0 := cell_later hb ki0
        replace ki1 := cell_later hb ki1
        replace ki2 := cell_later hb ki2
        replace ki3 := cell_later hb ki3
        replace kd0 := cell_later hb kd0
        replace kd1 := cell_later hb kd1
        replace kd2 := cell_later hb kd2
        replace kd3 := cell_later hb kd3
        replace km0 := cell_later hb km0
        replace km1 := cell_later hb km1
        replace km2 := cell_later hb km2
        replace km3 := cell_later hb km3
        replace km4 := cell_later hb km4
        replace km5 := cell_later hb km5
        replace km6 := cell_later hb km6
        replace kn0 := cell_later hb kn0
        replace kn1 := cell_later hb kn1
        replace kn2 := cell_later hb kn2
        replace kn3 := cell_later hb kn3
        replace kn4 := cell_later hb kn4
        replace kn5 := cell_later hb kn5
        replace kn6 := cell_later hb kn6
        replace kp0 := cell_later hb kp0
        replace kp1 := cell_later hb kp1
        replace kc0 := cell_later hb kc0
        replace kc1 := cell_later hb kc1
        replace kc2 := cell_later hb kc2
        replace kc3 := cell_later hb kc3
        replace kl0 := cell_later hb kl0
        replace kl1 := cell_later hb kl1
        replace kl2 := cell_later hb kl2
        replace kl3 := cell_later hb kl3
        replace kl4 := cell_later hb kl4
        replace kl5 := cell_later hb kl5
        replace kl6 := cell_later hb kl6
        replace kq0 := cell_later hb kq0
        replace kq1 := cell_later hb kq1
        replace kq2 := cell_later hb kq2
        replace kq3 := cell_later hb kq3
        replace kq4 := cell_later hb kq4
        replace kq5 := cell_later hb kq5
        replace kq6 := cell_later hb kq6
        replace ky0 := cell_later hb ky0
        replace ky1 := cell_later hb ky1
        replace ky2 := cell_later hb ky2
        replace ky3 := cell_later hb ky3
        replace ku0 := cell_later hb ku0
        replace ku1 := cell_later hb ku1
        replace ku2 := cell_later hb ku2
        replace ku3 := cell_later hb ku3
        replace zx : gx < w9.heap.size := World.block_lt_of_cell? _ _ kx0
        have zx_w9 := zx
        replace zi : gi < w9.heap.size := World.block_lt_of_cell? _ _ ki0
        have zi_w9 := zi
        replace zd : gd < w9.heap.size := World.block_lt_of_cell? _ _ kd0
        have zd_w9 := zd
        replace zm : w.heap.size < w9.heap.size := World.block_lt_of_cell? _ _ km0
        have zm_w9 := zm
        replace zn : w.heap.size + 1 < w9.heap.size := World.block_lt_of_cell? _ _ kn0
        have zn_w9 := zn
        replace zp : w.heap.size + 1 + 1 < w9.heap.size := World.block_lt_of_cell? _ _ kp0
        have zp_w9 := zp
        replace zc : w3.heap.size < w9.heap.size := World.block_lt_of_cell? _ _ kc0
        have zc_w9 := zc
        replace zl : w4.heap.size < w9.heap.size := World.block_lt_of_cell? _ _ kl0
        have zl_w9 := zl
        replace zq : w5.heap.size < w9.heap.size := World.block_lt_of_cell? _ _ kq0
        have zq_w9 := zq
        replace zy : w6.heap.size < w9.heap.size := World.block_lt_of_cell? _ _ ky0
        have zy_w9 := zy
        replace zu : w8.heap.size < w9.heap.size := World.block_lt_of_cell? _ _ ku0
        have zu_w9 := zu
        replace hb0 : Below w.heap.size w w9 := (by repeat (first | with_reducible exact Below.refl _ _ | with_reducible assumption | with_reducible refine Below.setCell ?_ (by first | omega | (simp <;> omega)) _ | with_reducible refine balloc ?_ _ | with_reducible refine Below.drew ?_ | with_reducible refine bstep ?_ (by with_reducible assumption)))
        have hs_w9 : wr.heap.size ≤ w9.heap.size := hb.size
        clear hb
        go_wp2_with fail
        refine Calls.mono (Valid_c 0 0 0 0 0 0 0 _) ?_
        rintro e w10 ⟨rfl, hb⟩
        replace kx0 := cell_later hb kx0
        replace kx1 := cell_later hb kx1
        replace kx2 := cell_later hb kx2
        replace kx3 := cell_later hb kx3
        replace ki0 := cell_later hb ki0
        replace ki1 := cell_later hb ki1
        replace ki2 := cell_later hb ki2
        replace ki3 := cell_later hb ki3
        replace kd0 := cell_later hb kd0
        replace kd1 := cell_later hb kd1
        replace kd2 := cell_later hb kd2
        replace kd3 := cell_later hb kd3
        replace km0 := cell_later hb km0
        replace km1 := cell_later hb km1
        replace km2 := cell_later hb km2
        replace km3 := cell_later hb km3
        replace km4 := cell_later hb km4
        replace km5 := cell_later hb km5
        replace km6 := cell_later hb km6
        replace kn0 := cell_later hb kn0
        replace kn1 := cell_later hb kn1
        replace kn2 := cell_later hb kn2
        replace kn3 := cell_later hb kn3
        replace kn4 := cell_later hb kn4
        replace kn5 := cell_later hb kn5
        replace kn6 := cell_later hb kn6
        replace kp0 := cell_later hb kp0
        replace kp1 := cell_later hb kp1
        replace kc0 := cell_later hb kc0
        replace kc1 := cell_later hb kc1
        replace kc2 := cell_later hb kc2
        replace kc3 := cell_later hb kc3
        replace kl0 := cell_later hb kl0
        replace kl1 := cell_later hb kl1
        replace kl2 := cell_later hb kl2
        replace kl3 := cell_later hb kl3
        replace kl4 := cell_later hb kl4
        replace kl5 := cell_later hb kl5
        replace kl6 := cell_later hb kl6
        replace kq0 := cell_later hb kq0
        replace kq1 := cell_later hb kq1
        replace kq2 := cell_later hb kq2
        replace kq3 := cell_later hb kq3
        replace kq4 := cell_later hb kq4
        replace kq5 := cell_later hb kq5
        replace kq6 := cell_later hb kq6
        replace ky0 := cell_later hb ky0
        replace ky1 := cell_later hb ky1
        replace ky2 := cell_later hb ky2
        replace ky3 := cell_later hb ky3
        replace ku0 := cell_later hb ku0
        replace ku1 := cell_later hb ku1
        replace ku2 := cell_later hb ku2
        replace ku3 := cell_later hb ku3
        replace zx : gx < w10.heap.size := World.block_lt_of_cell? _ _ kx0
        have zx_w10 := zx
        replace zi : gi < w10.heap.size := World.block_lt_of_cell? _ _ ki0
        have zi_w10 := zi
        replace zd : gd < w10.heap.size := World.block_lt_of_cell? _ _ kd0
        have zd_w10 := zd
        replace zm : w.heap.size < w10.heap.size := World.block_lt_of_cell? _ _ km0
        have zm_w10 := zm
        replace zn : w.heap.size + 1 < w10.heap.size := World.block_lt_of_cell? _ _ kn0
        have zn_w10 := zn
        replace zp : w.heap.size + 1 + 1 < w10.heap.size := World.block_lt_of_cell? _ _ kp0
        have zp_w10 := zp
        replace zc : w3.heap.size < w10.heap.size := World.block_lt_of_cell? _ _ kc0
        have zc_w10 := zc
        replace zl : w4.heap.size < w10.heap.size := World.block_lt_of_cell? _ _ kl0
        have zl_w10 := zl
        replace zq : w5.heap.size < w10.heap.size := World.block_lt_of_cell? _ _ kq0
        have zq_w10 := zq
        replace zy : w6.heap.size < w10.heap.size := World.block_lt_of_cell? _ _ ky0
        have zy_w10 := zy
        replace zu : w8.heap.size < w10.heap.size := World.block_lt_of_cell? _ _ ku0
        have zu_w10 := zu
        replace hb0 : Below w.heap.size w w10 := (by repeat (first | with_reducible exact Below.refl _ _ | with_reducible assumption | with_reducible refine Below.setCell ?_ (by first | omega | (simp <;> omega)) _ | with_reducible refine balloc ?_ _ | with_reducible refine Below.drew ?_ | with_reducible refine bstep ?_ (by with_reducible assumption)))
        have hs_w10 : w9.heap.size ≤ w10.heap.size := hb.size
        clear hb
        go_wp2
        go_ret
        exact ret_bool (by decide) (by repeat (first | with_reducible exact Below.refl _ _ | with_reducible assumption | with_reducible refine Below.setCell ?_ (by first | omega | (simp <;> omega)) _ | with_reducible refine balloc ?_ _ | with_reducible refine Below.drew ?_ | with_reducible refine bstep ?_ (by with_reducible assumption)))


end Go.Proofs.Ytlkjpackjjncaaa.Da
