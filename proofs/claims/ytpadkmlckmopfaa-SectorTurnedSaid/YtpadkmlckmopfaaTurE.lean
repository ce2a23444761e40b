/- TurE: Turned. -/
import Derived.Test.YtpadkmlckmopfaaTurD
import Derived.Test.YtpadkmlckmopfaaRows
import Derived.WalkKit
import Derived.WalkSpells
import Derived.WalkLawsBesides
import Derived.Lib.Hide
import Derived.Deep.QuietTactic
import Derived.BigQuiet
import Derived.RegionTactic
import Derived.ChangeAlike
import Derived.BigRegion
import Derived.Deep.RegionHeld3
import Derived.Deep.RegionWith
import Derived.Outline
import Derived.IntWalk
import Derived.Deep.DeepCutAuto
import Derived.LoopTactic
import Derived.OwnWalk
import Derived.Laws.OwnMore
import Derived.StillTailTactics
import Derived.RangeFuncBox
import Derived.RangeFuncNested
namespace Go.Proofs.Ytpadkmlckmopfaa.Se
open Go.RowKit
set_option linter.unusedSimpArgs false
set_option linter.unusedVariables false

set_option maxRecDepth 100000 in
set_option maxHeartbeats 12800000 in
theorem turned_ok (va vb : Value) (l m : List Sec) (v1 v2 : Int) (w : World) (ha : Secs w va l) (hb : Secs w vb m) (hd : ∀ W, Calls Try.prog 11 #[] W (Ret W (.bool true))) (hl : vaL l = true) (hm : vaL m = true) : Calls Try.prog 9 #[va, vb, (.agg #[.int .i64 v1, .int .i64 v2])] w (Ret w (.bool true)) := by
  have HA := Lib.hid ha
  have HB := Lib.hid hb
  have HD := Lib.hid hd
  have HVL := Lib.hid hl
  have HVM := Lib.hid hm
  have CVA : ∀ W, Secs W va l → Calls Try.prog 12 #[va] W (Ret W (.bool true)) := fun W k => by have := Valid_c va l W k; rwa [hl] at this
  have CVB : ∀ W, Secs W vb m → Calls Try.prog 12 #[vb] W (Ret W (.bool true)) := fun W k => by have := Valid_c vb m W k; rwa [hm] at this
  have CS := fun W k1 k2 => Safer_ok va vb l m W k1 k2 hl hm
  obtain ⟨s0, hs0⟩ : ∃ s, (!hoL m l 1) = s := ⟨_, rfl⟩
  rw [hs0] at CS
  have CS2 : ∀ (x y : Value) (W : World), Secs W x (quL l) → Secs W y (quL m) → Calls Try.prog 20 #[x, y] W (Ret W (.tuple #[(.bool s0), (.int .i64 0)])) := fun x y W k1 k2 => by have := Safer_ok x y (quL l) (quL m) W k1 k2 (va_q hl) (va_q hm); rw [ho_q hm hl (by omega), hs0] at this; exact this
  obtain ⟨N, hN⟩ : ∃ N, (noL l).length = N := ⟨_, rfl⟩
  have CN := fun W k => normal_s va l N W k hl hN
  have CN2 := fun (x : Value) W k => normal_s x (quL l) N W k (va_q hl) ((no_q hl).trans hN)
  have CQA := fun W k => quarter_s va l W k hl
  have CQB := fun W k => quarter_s vb m W k hm
  have H1 := Lib.hid CVA
  have H2 := Lib.hid CVB
  have H3 := Lib.hid CS
  have H4 := Lib.hid CS2
  have H5 := Lib.hid CN
  have H6 := Lib.hid CN2
  have H7 := Lib.hid CQA
  have H8 := Lib.hid CQB
  clear CVA CVB CS CS2 CN CN2 CQA CQB hs0 hN hl hm ha hb hd
  go_enter Try.func9, Try.ntmps9
  go_wp2_with fail
  refine Calls.mono (HD.out _) ?_
  rintro e w1 ⟨rfl, hb⟩
  have kv0 : w1.cell? ⟨w.heap.size, 0, none⟩ = some (.int .i64 v1) := cell_later hb (by go_simp)
  have kv1 : w1.cell? ⟨w.heap.size, 1, none⟩ = some (.int .i64 v2) := cell_later hb (by go_simp)
  have zv : w.heap.size < w1.heap.size := World.block_lt_of_cell? _ _ kv0
  have zv_w1 := zv
  have hb0 : Below w.heap.size w w1 := bstep (balloc (Below.refl _ _) _) hb
  have hs_w1 := hb.size; (try simp only [World.size_alloc, World.size_setCell] at hs_w1)
  clear hb
  go_wp2_with fail
  refine Calls.mono (H1.out _ (HA.out.below hb0)) ?_
  rintro e w2 ⟨rfl, hb⟩
  replace kv0 := cell_later hb kv0
  replace kv1 := cell_later hb kv1
  replace zv : w.heap.size < w2.heap.size := World.block_lt_of_cell? _ _ kv0
  have zv_w2 := zv
  replace hb0 : Below w.heap.size w w2 := bstep hb0 hb
  have hs_w2 : w1.heap.size ≤ w2.heap.size := hb.size
  clear hb
  go_wp2_with fail
  refine Calls.mono (H2.out _ (HB.out.below hb0)) ?_
  rintro e w3 ⟨rfl, hb⟩
  replace kv0 := cell_later hb kv0
  replace kv1 := cell_later hb kv1
  replace zv : w.heap.size < w3.heap.size := World.block_lt_of_cell? _ _ kv0
  have zv_w3 := zv
  replace hb0 : Below w.heap.size w w3 := bstep hb0 hb
  have hs_w3 : w2.heap.size ≤ w3.heap.size := hb.size
  clear hb
  go_wp2_with fail
  refine Calls.mono (H3.out _ (HA.out.below hb0) (HB.out.below hb0)) ?_
  rintro e w4 ⟨rfl, hb⟩
  replace kv0 := cell_later hb kv0
  replace kv1 := cell_later hb kv1
  replace zv : w.heap.size < w4.heap.size := World.block_lt_of_cell? _ _ kv0
  have zv_w4 := zv
  replace hb0 : Below w.heap.size w w4 := bstep hb0 hb
  have hs_w4 : w3.heap.size ≤ w4.heap.size := hb.size
  clear hb
  go_wp2_with fail
  refine Calls.mono (H7.out _ (HA.out.below hb0)) ?_
  rintro e w5 ⟨x1, rfl, hq1, hb⟩
  replace kv0 := cell_later hb kv0
  replace kv1 := cell_later hb kv1
  replace zv : w.heap.size < w5.heap.size := World.block_lt_of_cell? _ _ kv0
  have zv_w5 := zv
  replace hb0 : Below w.heap.size w w5 := bstep hb0 hb
  have hs_w5 : w4.heap.size ≤ w5.heap.size := hb.size
  clear hb
  go_wp2_with fail
  refine Calls.mono (H8.out _ (HB.out.below hb0)) ?_
  rintro e w6 ⟨x2, rfl, hq2, hb⟩
  replace hq1 := hq1.below hb
  replace kv0 := cell_later hb kv0
  replace kv1 := cell_later hb kv1
  replace zv : w.heap.size < w6.heap.size := World.block_lt_of_cell? _ _ kv0
  have zv_w6 := zv
  replace hb0 : Below w.heap.size w w6 := bstep hb0 hb
  have hs_w6 : w5.heap.size ≤ w6.heap.size := hb.size
  clear hb
  go_wp2_with fail
  refine Calls.mono (H4.out _ _ _ hq1 hq2) ?_
  rintro e w7 ⟨rfl, hb⟩
  replace kv0 := cell_later hb kv0
  replace kv1 := cell_later hb kv1
  replace zv : w.heap.size < w7.heap.size := World.block_lt_of_cell? _ _ kv0
  have zv_w7 := zv
  replace hb0 : Below w.heap.size w w7 := bstep hb0 hb
  have hs_w7 : w6.heap.size ≤ w7.heap.size := hb.size
  clear hb
  clear hq1 hq2
  go_wp2_with fail
  refine Calls.mono (H5.out _ (HA.out.below hb0)) ?_
  rintro e w8 ⟨p1, c1, rfl, hb⟩
  replace kv0 := cell_later hb kv0
  replace kv1 := cell_later hb kv1
  replace zv : w.heap.size < w8.heap.size := World.block_lt_of_cell? _ _ kv0
  have zv_w8 := zv
  replace hb0 : Below w.heap.size w w8 := bstep hb0 hb
  have hs_w8 : w7.heap.size ≤ w8.heap.size := hb.size
  clear hb
  go_wp2_with fail
  refine Calls.mono (H7.out _ (HA.out.below hb0)) ?_
  rintro e w9 ⟨x3, rfl, hq3, hb⟩
  replace kv0 := cell_later hb kv0
  replace kv1 := cell_later hb kv1
  replace zv : w.heap.size < w9.heap.size := World.block_lt_of_cell? _ _ kv0
  have zv_w9 := zv
  replace hb0 : Below w.heap.size w w9 := bstep hb0 hb
  have hs_w9 : w8.heap.size ≤ w9.heap.size := hb.size
  clear hb
  go_wp2_with fail
  refine Calls.mono (H6.out _ _ hq3) ?_
  rintro e w10 ⟨p2, c2, rfl, hb⟩
  replace kv0 := cell_later hb kv0
  replace kv1 := cell_later hb kv1
  replace zv : w.heap.size < w10.heap.size := World.block_lt_of_cell? _ _ kv0
  have zv_w10 := zv
  replace hb0 : Below w.heap.size w w10 := bstep hb0 hb
  have hs_w10 : w9.heap.size ≤ w10.heap.size := hb.size
  clear hb
  clear hq3
  cases okv : okD (v1, v2)
  · have CC := fun W k => Color_no va l v1 v2 W k (by rw [okv, Bool.and_false])
    clear okv
    go_wp2_with fail
    refine Calls.mono (CC _ (HA.out.below hb0)) ?_
    rintro e w11 ⟨rfl, hb⟩
    replace kv0 := cell_later hb kv0
    replace kv1 := cell_later hb kv1
    replace zv : w.heap.size < w11.heap.size := World.block_lt_of_cell? _ _ kv0
    have zv_w11 := zv
    replace hb0 : Below w.heap.size w w11 := bstep hb0 hb
    have hs_w11 : w10.heap.size ≤ w11.heap.size := hb.size
    clear hb
    go_wp2
    go_ret
    exact ⟨rfl, hb0⟩
  · have CC := fun W k => Color_ok va l v1 v2 W k HVL.out okv
    have CR : ∀ (x : Value) (W : World), Secs W x (quL l) → Calls Try.prog 16 #[x, .agg #[(.int .i64 (-v2)), (.int .i64 v1)]] W (Ret W (.tuple #[(.int .i64 ((shL l (v1, v2)).1)), (.int .i64 ((shL l (v1, v2)).2)), (.int .i64 0)])) := fun x W k => by
      have h := Color_ok x (quL l) (-v2) v1 W k (va_q HVL.out) (by have := okD_q (v1, v2); rw [okv] at this; exact this)
      have e := sh_q (va_mem HVL.out) (okD_iff.1 okv).1
      have e2 : shL (quL l) (-v2, v1) = shL l (v1, v2) := e
      rw [e2] at h; exact h
    generalize shL l (v1, v2) = q at *
    obtain ⟨q1, q2⟩ := q
    dsimp only at CC CR
    have HR := Lib.hid CR
    clear CR
    have bd := (okD_iff.1 okv).2.2
    have bd1 : -1000000 ≤ v2 := bd.1
    have bd2 : v2 ≤ 1000000 := bd.2
    have ww1 : wrap64 (-v2) = -v2 := IntWalk.wrap64_in _ (by omega)
    have ww2 : IntKind.i64.wrap (-v2) = -v2 := IntWalk.i64_in _ (by omega)
    clear okv bd
    go_wp2_with fail
    refine Calls.mono (CC _ (HA.out.below hb0)) ?_
    rintro e w11 ⟨rfl, hb⟩
    replace kv0 := cell_later hb kv0
    replace kv1 := cell_later hb kv1
    replace zv : w.heap.size < w11.heap.size := World.block_lt_of_cell? _ _ kv0
    have zv_w11 := zv
    replace hb0 : Below w.heap.size w w11 := bstep hb0 hb
    have hs_w11 : w10.heap.size ≤ w11.heap.size := hb.size
    clear hb
    clear CC
    have HB0 := Lib.hid hb0
    clear hb0
    go_wp2_with fail
    refine wp_region_held_drew (S := fun w' => w'.cell? ⟨w.heap.size, 0, none⟩ = some (.int .i64 v1) ∧ w'.cell? ⟨w.heap.size, 1, none⟩ = some (.int .i64 v2)) (by kernel_rfl) (by first | (go_keep; done) | ((repeat' apply And.intro) <;> go_simp)) (fun hHeld => ?_)
    refine wpAnyH_take (i := 0) (oi := ⟨some 102, _, _, _, _, _⟩) (v := ?_) rfl (by kernel_rfl) (by kernel_rfl) (by kernel_rfl) (fun _ _ _ h => h) (Or.inl ⟨by rfl, ?_⟩) (by assumption) ?_
    rotate_left
    · intro w hSw; (try dsimp only at hSw); go_simp; try with_reducible rfl
    try simp only [Act.put, List.setIfInBounds_toArray, List.set_cons_zero, List.set_cons_succ]
    refine wpAnyH_take (i := 2) (oi := ⟨some 104, _, _, _, _, _⟩) (v := ?_) rfl (by kernel_rfl) (by kernel_rfl) (by kernel_rfl) (fun _ _ _ h => h) (Or.inl ⟨by rfl, ?_⟩) (by assumption) ?_
    rotate_left
    · intro w hSw; (try dsimp only at hSw); go_simp; try with_reducible rfl
    try simp only [Act.put, List.setIfInBounds_toArray, List.set_cons_zero, List.set_cons_succ]
    refine wpAnyH_take (i := 3) (oi := ⟨some 105, _, _, _, _, _⟩) (v := ?_) rfl (by kernel_rfl) (by kernel_rfl) (by kernel_rfl) (fun _ _ _ h => h) (Or.inl ⟨by rfl, ?_⟩) (by assumption) ?_
    rotate_left
    · intro w hSw; (try dsimp only at hSw); go_simp; try with_reducible rfl
    try simp only [Act.put, List.setIfInBounds_toArray, List.set_cons_zero, List.set_cons_succ]
    refine wpAnyH_take (i := 4) (oi := ⟨some 106, _, _, _, _, _⟩) (v := ?_) rfl (by kernel_rfl) (by kernel_rfl) (by kernel_rfl) (fun _ _ _ h => h) (Or.inl ⟨by rfl, ?_⟩) (by assumption) ?_
    rotate_left
    · intro w hSw; (try dsimp only at hSw); go_simp; try with_reducible rfl
    try simp only [Act.put, List.setIfInBounds_toArray, List.set_cons_zero, List.set_cons_succ]
    refine wpAnyH_take (i := 5) (oi := ⟨some 107, _, _, _, _, _⟩) (v := ?_) rfl (by kernel_rfl) (by kernel_rfl) (by kernel_rfl) (fun _ _ _ h => h) (Or.inl ⟨by rfl, ?_⟩) (by assumption) ?_
    rotate_left
    · intro w hSw; (try dsimp only at hSw); go_simp; try with_reducible rfl
    try simp only [Act.put, List.setIfInBounds_toArray, List.set_cons_zero, List.set_cons_succ]
    refine wpAnyH_take (i := 6) (oi := ⟨some 108, _, _, _, _, _⟩) (v := ?_) rfl (by kernel_rfl) (by kernel_rfl) (by kernel_rfl) (fun _ _ _ h => h) (Or.inl ⟨by rfl, ?_⟩) (by assumption) ?_
    rotate_left
    · intro w hSw; (try dsimp only at hSw); go_simp; try with_reducible rfl
    try simp only [Act.put, List.setIfInBounds_toArray, List.set_cons_zero, List.set_cons_succ]
    refine wpAnyH_ready (rs := [1]) (by kernel_rfl) (by simp) ?_
    refine AllReadyH.cons (o := ⟨some 103, _, _, _, _, _⟩) rfl (fun KK hKK => ?_) AllReadyH.nil
    go_simp
    refine Calls.mono (H7.out _ (HA.out.below HB0.out.drew)) ?_
    rintro e wt1 ⟨x4, rfl, hq4, hbt1⟩
    have hBr : Below w11.heap.size w11 wt1 := (by repeat (first | with_reducible exact Below.refl _ _ | with_reducible assumption | with_reducible refine Below.setCell ?_ (by first | omega | (simp <;> omega)) _ | with_reducible refine balloc ?_ _ | with_reducible refine Below.drew ?_ | with_reducible refine bstep ?_ (by with_reducible assumption)))
    have m0_1 := (hBr.cell (p := ⟨w.heap.size, 0, none⟩) zv).trans kv0
    have m1_1 := (hBr.cell (p := ⟨w.heap.size, 1, none⟩) zv).trans kv1
    clear hbt1
    (try go_wp2_with fail)
    refine hKK.out _ _ (by first | (go_keep; done) | ((repeat' apply And.intro) <;> go_simp)) (fun hHeld => ?_)
    clear hKK KK
    try simp only [Act.put, List.setIfInBounds_toArray, List.set_cons_zero, List.set_cons_succ]
    refine wpAnyH_ready (rs := [7]) (by kernel_rfl) (by simp) ?_
    refine AllReadyH.cons (o := ⟨some 109, _, _, _, _, _⟩) rfl (fun KK hKK => ?_) AllReadyH.nil
    go_simp
    refine Calls.mono (at_c _ _ _) ?_
    rintro e wt2 ⟨rfl, hbt2⟩
    replace hBr : Below w11.heap.size w11 wt2 := bstep hBr hbt2
    have m0_2 := (hBr.cell (p := ⟨w.heap.size, 0, none⟩) zv).trans kv0
    have m1_2 := (hBr.cell (p := ⟨w.heap.size, 1, none⟩) zv).trans kv1
    replace hq4 := hq4.below hbt2
    clear hbt2
    (try go_wp2_with fail)
    refine hKK.out _ _ (by first | (go_keep; done) | ((repeat' apply And.intro) <;> go_simp)) (fun hHeld => ?_)
    clear hKK KK
    try simp only [Act.put, List.setIfInBounds_toArray, List.set_cons_zero, List.set_cons_succ]
    refine wpAnyH_ready (rs := [8]) (by kernel_rfl) (by simp) ?_
    refine AllReadyH.cons (o := ⟨some 110, _, _, _, _, _⟩) rfl (fun KK hKK => ?_) AllReadyH.nil
    go_simp
    refine Calls.mono (HR.out _ _ hq4) ?_
    rintro e wt3 ⟨rfl, hbt3⟩
    replace hBr : Below w11.heap.size w11 wt3 := bstep hBr hbt3
    have m0_3 := (hBr.cell (p := ⟨w.heap.size, 0, none⟩) zv).trans kv0
    have m1_3 := (hBr.cell (p := ⟨w.heap.size, 1, none⟩) zv).trans kv1
    clear hbt3
    (try go_wp2_with fail)
    refine hKK.out _ _ (by first | (go_keep; done) | ((repeat' apply And.intro) <;> go_simp)) (fun hHeld => ?_)
    clear hKK KK
    try simp only [Act.put, List.setIfInBounds_toArray, List.set_cons_zero, List.set_cons_succ]
    refine wpAnyH_take (i := 9) (oi := ⟨some 101, _, _, _, _, _⟩) (v := ?_) rfl (by kernel_rfl) (by kernel_rfl) (by kernel_rfl) (fun _ _ _ h => h) (Or.inl ⟨by rfl, ?_⟩) (by assumption) ?_
    rotate_left
    · intro w hSw; (try dsimp only at hSw); go_simp; try with_reducible rfl
    try simp only [Act.put, List.setIfInBounds_toArray, List.set_cons_zero, List.set_cons_succ]
    refine wpAnyH_take (i := 10) (oi := ⟨some 111, _, _, _, _, _⟩) (v := ?_) rfl (by kernel_rfl) (by kernel_rfl) (by kernel_rfl) (fun _ _ _ h => h) (Or.inl ⟨by rfl, ?_⟩) (by assumption) ?_
    rotate_left
    · intro w hSw; (try dsimp only at hSw); go_simp; try with_reducible rfl
    try simp only [Act.put, List.setIfInBounds_toArray, List.set_cons_zero, List.set_cons_succ]
    refine wpAnyH_take (i := 11) (oi := ⟨some 112, _, _, _, _, _⟩) (v := ?_) rfl (by kernel_rfl) (by kernel_rfl) (by kernel_rfl) (fun _ _ _ h => h) (Or.inl ⟨by rfl, ?_⟩) (by assumption) ?_
    rotate_left
    · intro w hSw; (try dsimp only at hSw); go_simp; try with_reducible rfl
    try simp only [Act.put, List.setIfInBounds_toArray, List.set_cons_zero, List.set_cons_succ]
    refine wpAnyH_take (i := 12) (oi := ⟨some 113, _, _, _, _, _⟩) (v := ?_) rfl (by kernel_rfl) (by kernel_rfl) (by kernel_rfl) (fun _ _ _ h => h) (Or.inl ⟨by rfl, ?_⟩) (by assumption) ?_
    rotate_left
    · intro w hSw; (try dsimp only at hSw); go_simp; try with_reducible rfl
    try simp only [Act.put, List.setIfInBounds_toArray, List.set_cons_zero, List.set_cons_succ]
    refine wpAnyH_take (i := 13) (oi := ⟨some 19, _, _, _, _, _⟩) (v := ?_) rfl (by kernel_rfl) (by kernel_rfl) (by kernel_rfl) (fun _ _ _ h => h) (Or.inl ⟨by rfl, ?_⟩) (by assumption) ?_
    rotate_left
    · intro w hSw; (try dsimp only at hSw); go_simp; try with_reducible rfl
    try simp only [Act.put, List.setIfInBounds_toArray, List.set_cons_zero, List.set_cons_succ]
    refine wpAnyH_take (i := 14) (oi := ⟨some 20, _, _, _, _, _⟩) (v := ?_) rfl (by kernel_rfl) (by kernel_rfl) (by kernel_rfl) (fun _ _ _ h => h) (Or.inl ⟨by rfl, ?_⟩) (by assumption) ?_
    rotate_left
    · intro w hSw; (try dsimp only at hSw); go_simp; try with_reducible rfl
    try simp only [Act.put, List.setIfInBounds_toArray, List.set_cons_zero, List.set_cons_succ]
    refine wpAnyH_take (i := 15) (oi := ⟨some 21, _, _, _, _, _⟩) (v := ?_) rfl (by kernel_rfl) (by kernel_rfl) (by kernel_rfl) (fun _ _ _ h => h) (Or.inl ⟨by rfl, ?_⟩) (by assumption) ?_
    rotate_left
    · intro w hSw; (try dsimp only at hSw); go_simp; try with_reducible rfl
    try simp only [Act.put, List.setIfInBounds_toArray, List.set_cons_zero, List.set_cons_succ]
    refine wpAnyH_done (by kernel_rfl) ?_ _
    (try dsimp only [Exit.then, Met])
    have hbz := HB0.out.trans (hBr.mono (by have := HB0.out.size; omega))
    clear hBr m0_1 m1_1 m0_2 m1_2 m0_3 m1_3
    go_wp2
    go_ret
    exact ⟨rfl, hbz⟩

end Go.Proofs.Ytpadkmlckmopfaa.Se
