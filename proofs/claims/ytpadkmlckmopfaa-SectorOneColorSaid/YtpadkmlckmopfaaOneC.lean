/- OneC: one color. -/
import Derived.Test.YtpadkmlckmopfaaOneB
import Derived.Test.YtpadkmlckmopfaaSecJ
import Derived.Test.YtpadkmlckmopfaaRows
import Derived.WalkKit
import Derived.WalkSpells
import Derived.WalkLawsBesides
import Derived.Lib.Hide
import Derived.Deep.QuietTactic
import Derived.BigQuiet
import Derived.RegionTactic
import Derived.ChangeAlike
import Derived.BigRegion
import Derived.Deep.RegionHeld3
import Derived.Deep.RegionWith
import Derived.Outline
import Derived.IntWalk
import Derived.Deep.DeepCutAuto
import Derived.LoopTactic
import Derived.OwnWalk
import Derived.Laws.OwnMore
import Derived.RangeFuncBox
import Derived.RangeFuncNested
namespace Go.Proofs.Ytpadkmlckmopfaa.Se
open Go.RowKit
set_option linter.unusedSimpArgs false
set_option linter.unusedVariables false

theorem below_appS {B : Nat} {W0 wA w' : World} {o : Obj} {e : TypeId} {size : Nat} {v : Value} {n : Nat} {xs : List Value} (hb : Below B W0 wA) (hB : B ≤ wA.heap.size) (hown : (wA.alloc o).ownsRow B e size v n xs) (hg : (wA.alloc o).grownBy w' v.ownBlock) : Below B W0 w' :=
  below_app2 (hb.alloc hB o) hown (by simp; omega) hg
set_option maxRecDepth 100000 in
set_option maxHeartbeats 12800000 in
theorem one_ok (va : Value) (l : List Sec) (v1 v2 z : Int) (w : World) (ha : Secs w va l) (hd : ∀ W, Calls Try.prog 11 #[] W (Ret W (.bool true))) (hz : 0 ≤ z ∧ z ≤ 255) (hl : vaL l = true) (hv : okD (v1, v2) = true) : Calls Try.prog 5 #[va, (.agg #[.int .i64 v1, .int .i64 v2]), .int .u8 z] w (Ret w (.bool true)) := by
  have HA := Lib.hid ha
  have HD := Lib.hid hd
  have HVL := Lib.hid hl
  have HVV := Lib.hid hv
  have l12 := (vaL_all hl).1
  have all := (vaL_all hl).2
  clear hd
  have HE := Lib.hid (cn_end hl hv)
  have CI := Lib.hid (fun (k : Nat) (hk : k < l.length) (W : World) => In_ok (gs l k).fx (gs l k).fy (gs l k).tx (gs l k).ty (gs l k).co (gs l k).ra v1 v2 W (all k hk) hv)
  have HS := Lib.hid (fun (k : Nat) (hk : k < l.length) (h : hasS (gs l k) (v1, v2) = true) => sh_one hl hv (gs_mem hk) h)
  have CQ := fun W k1 => Color_ok va l v1 v2 W k1 hl hv
  have CR := Lib.hid (fun (k : Nat) (u : Value) (W : World) (h : Secs W u (roL l k)) => show Calls Try.prog 16 #[u, (.agg #[.int .i64 v1, .int .i64 v2])] W (Ret W (.tuple #[(.int .i64 ((shL l (v1, v2)).1)), (.int .i64 ((shL l (v1, v2)).2)), (.int .i64 0)])) by have := Color_ok u (roL l k) v1 v2 W h (ro_va k hl) hv; rwa [ro_sh k hl hv] at this)
  obtain ⟨⟨pa, ca, rfl, _, hlc, hp⟩, _⟩ := ha
  have HP := Lib.hid hp
  clear hp hl hv all
  generalize shL l (v1, v2) = q at *
  obtain ⟨q1, q2⟩ := q
  dsimp only at CQ
  replace CR := CR.out
  dsimp only at CR
  replace CR := Lib.hid CR
  obtain ⟨i0, hi, hz0, hz1, hz2⟩ := info_parts info_s
  have HI := Lib.hid hi
  clear hi
  go_enter Try.func5, Try.ntmps5
  go_wp2_with fail
  refine Calls.mono (HD.out _) ?_
  rintro e w1 ⟨rfl, hb⟩
  have kv0 : w1.cell? ⟨w.heap.size, 0, none⟩ = some (.int .i64 v1) := cell_later hb (by go_simp)
  have kv1 : w1.cell? ⟨w.heap.size, 1, none⟩ = some (.int .i64 v2) := cell_later hb (by go_simp)
  have zv : w.heap.size < w1.heap.size := World.block_lt_of_cell? _ _ kv0
  have zv_w1 := zv
  have hb0 : Below w.heap.size w w1 := bstep (balloc (Below.refl _ _) _) hb
  have hs_w1 := hb.size; (try simp only [World.size_alloc, World.size_setCell] at hs_w1)
  clear hb
  go_wp2_with fail
  refine Calls.mono (CQ _ (HA.out.below hb0)) ?_
  rintro e w2 ⟨rfl, hb⟩
  replace kv0 := cell_later hb kv0
  replace kv1 := cell_later hb kv1
  replace zv : w.heap.size < w2.heap.size := World.block_lt_of_cell? _ _ kv0
  have zv_w2 := zv
  replace hb0 : Below w.heap.size w w2 := bstep hb0 hb
  have hs_w2 : w1.heap.size ≤ w2.heap.size := hb.size
  clear hb
  clear CQ
  go_wp2_with fail
  go_loopw [7, 11, 12] (fun u7 u11 u12 wr => ∃ k : Nat, u12 = (.int .i64 k) ∧ k ≤ l.length ∧ u7 = (.bool true) ∧ (∃ n : Nat, u11 = (.int .i64 n) ∧ Hid (n = cnK l (v1, v2) k)) ∧ Below w2.heap.size w2 wr) (fun _ _ i _ => l.length - (intOf i).toNat)
  case atStart => exact ⟨0, rfl, by omega, rfl, ⟨0, rfl, Lib.hid (by simp [cnK])⟩, Below.refl _ _⟩
  case round =>
    obtain ⟨k, rfl, hk, rfl, ⟨n, rfl, HN⟩, hbel⟩ := hrel
    have hbw : Below w.heap.size w wr := hb0.trans (hbel.mono (by omega))
    have p0 := (hbel.cell (p := ⟨w.heap.size, 0, none⟩) zv).trans kv0
    have p1 := (hbel.cell (p := ⟨w.heap.size, 1, none⟩) zv).trans kv1
    have hszr := hbel.size
    have zr : w.heap.size < wr.heap.size := by omega
    have HBE := Lib.hid hbel
    have HBW := Lib.hid hbw
    clear hbel hbw kv0 kv1
    by_cases hlt : k < l.length
    · obtain ⟨b, off, rfl, hr⟩ := HP.out (by omega)
      have hbl := hr.lt (by omega)
      obtain ⟨e0, e1, e2, e3, e4, e5⟩ := (hr.below hbl HBW.out) k hlt
      have hbr : b < wr.heap.size := by omega
      clear hr
      have CK := CI.out k hlt
      have HK := HS.out k hlt
      have HCN := cnK_succ (v := (v1, v2)) hlt
      have hse : gs l k = ⟨(gs l k).fx, (gs l k).fy, (gs l k).tx, (gs l k).ty, (gs l k).co, (gs l k).ra⟩ := rfl
      rw [hse] at HK HCN
      clear hse
      generalize (gs l k).fx = x1 at *
      generalize (gs l k).fy = x2 at *
      generalize (gs l k).tx = x3 at *
      generalize (gs l k).ty = x4 at *
      generalize (gs l k).co = x5 at *
      generalize (gs l k).ra = x6 at *
      have HC2 := Lib.hid HCN
      have HK2 := Lib.hid HK
      clear HCN HK
      generalize hin : hasS ⟨x1, x2, x3, x4, x5, x6⟩ (v1, v2) = y at *
      have HIN := Lib.hid hin
      clear hin
      go_wp2_with fail
      refine wp_region_held_drew (S := fun w' => w'.cell? ⟨b, off + k * 6, none⟩ = some (.int .i64 x1) ∧ w'.cell? ⟨b, off + k * 6 + 1, none⟩ = some (.int .i64 x2) ∧ w'.cell? ⟨b, off + k * 6 + 2, none⟩ = some (.int .i64 x3) ∧ w'.cell? ⟨b, off + k * 6 + 3, none⟩ = some (.int .i64 x4) ∧ w'.cell? ⟨b, off + k * 6 + 4, none⟩ = some (.int .i64 x5) ∧ w'.cell? ⟨b, off + k * 6 + 5, none⟩ = some (.int .i64 x6) ∧ w'.cell? ⟨w.heap.size, 0, none⟩ = some (.int .i64 v1) ∧ w'.cell? ⟨w.heap.size, 1, none⟩ = some (.int .i64 v2)) (by kernel_rfl) (by first | (go_keep; done) | ((repeat' apply And.intro) <;> go_simp)) (fun hHeld => ?_)
      refine wpAnyH_take (i := 0) (oi := ⟨some 54, _, _, _, _, _⟩) (v := ?_) rfl (by kernel_rfl) (by kernel_rfl) (by kernel_rfl) (fun _ _ _ h => h) (Or.inl ⟨by rfl, ?_⟩) (by assumption) ?_
      rotate_left
      · intro w hSw; (try dsimp only at hSw); go_simp; try with_reducible rfl
      try simp only [Act.put, List.setIfInBounds_toArray, List.set_cons_zero, List.set_cons_succ]
      refine wpAnyH_take (i := 1) (oi := ⟨some 55, _, _, _, _, _⟩) (v := ?_) rfl (by kernel_rfl) (by kernel_rfl) (by kernel_rfl) (fun _ _ _ h => h) (Or.inl ⟨by rfl, ?_⟩) (by assumption) ?_
      rotate_left
      · intro w hSw; (try dsimp only at hSw); go_simp; try with_reducible rfl
      try simp only [Act.put, List.setIfInBounds_toArray, List.set_cons_zero, List.set_cons_succ]
      refine wpAnyH_take (i := 2) (oi := ⟨some 56, _, _, _, _, _⟩) (v := ?_) rfl (by kernel_rfl) (by kernel_rfl) (by kernel_rfl) (fun _ _ _ h => h) (Or.inl ⟨by rfl, ?_⟩) (by assumption) ?_
      rotate_left
      · intro w hSw; (try dsimp only at hSw); go_simp; try with_reducible rfl
      try simp only [Act.put, List.setIfInBounds_toArray, List.set_cons_zero, List.set_cons_succ]
      refine wpAnyH_take (i := 3) (oi := ⟨some 57, _, _, _, _, _⟩) (v := ?_) rfl (by kernel_rfl) (by kernel_rfl) (by kernel_rfl) (fun _ _ _ h => h) (Or.inl ⟨by rfl, ?_⟩) (by assumption) ?_
      rotate_left
      · intro w hSw; (try dsimp only at hSw); go_simp; try with_reducible rfl
      try simp only [Act.put, List.setIfInBounds_toArray, List.set_cons_zero, List.set_cons_succ]
      refine wpAnyH_take (i := 4) (oi := ⟨some 58, _, _, _, _, _⟩) (v := ?_) rfl (by kernel_rfl) (by kernel_rfl) (by kernel_rfl) (fun _ _ _ h => h) (Or.inl ⟨by rfl, ?_⟩) (by assumption) ?_
      rotate_left
      · intro w hSw; (try dsimp only at hSw); go_simp; try with_reducible rfl
      try simp only [Act.put, List.setIfInBounds_toArray, List.set_cons_zero, List.set_cons_succ]
      refine wpAnyH_ready (rs := [5]) (by kernel_rfl) (by simp) ?_
      refine AllReadyH.cons (o := ⟨some 59, _, _, _, _, _⟩) rfl (fun KK hKK => ?_) AllReadyH.nil
      go_simp
      refine Calls.mono (CK _) ?_
      rintro e w3 ⟨rfl, hb3⟩
      have hb3x : Below wr.heap.size wr w3 := (by repeat (first | with_reducible exact Below.refl _ _ | with_reducible assumption | with_reducible refine Below.setCell ?_ (by first | omega | (simp <;> omega)) _ | with_reducible refine balloc ?_ _ | with_reducible refine Below.drew ?_ | with_reducible refine bstep ?_ (by with_reducible assumption)))
      have d0 := (hb3x.cell (p := ⟨b, off + k * 6, none⟩) hbr).trans e0
      have d1 := (hb3x.cell (p := ⟨b, off + k * 6 + 1, none⟩) hbr).trans e1
      have d2 := (hb3x.cell (p := ⟨b, off + k * 6 + 2, none⟩) hbr).trans e2
      have d3 := (hb3x.cell (p := ⟨b, off + k * 6 + 3, none⟩) hbr).trans e3
      have d4 := (hb3x.cell (p := ⟨b, off + k * 6 + 4, none⟩) hbr).trans e4
      have d5 := (hb3x.cell (p := ⟨b, off + k * 6 + 5, none⟩) hbr).trans e5
      have d6 := (hb3x.cell (p := ⟨w.heap.size, 0, none⟩) zr).trans p0
      have d7 := (hb3x.cell (p := ⟨w.heap.size, 1, none⟩) zr).trans p1
      have HB3 := Lib.hid hb3x
      clear hb3 hb3x
      (try go_wp2_with fail)
      refine hKK.out _ _ (by first | (go_keep; done) | ((repeat' apply And.intro) <;> go_simp)) (fun hHeld => ?_)
      clear hKK KK
      try simp only [Act.put, List.setIfInBounds_toArray, List.set_cons_zero, List.set_cons_succ]
      refine wpAnyH_take (i := 6) (oi := ⟨some 53, _, _, _, _, _⟩) (v := ?_) rfl (by kernel_rfl) (by kernel_rfl) (by kernel_rfl) (fun _ _ _ h => h) (Or.inl ⟨by rfl, ?_⟩) (by assumption) ?_
      rotate_left
      · intro w hSw; (try dsimp only at hSw); go_simp; try with_reducible rfl
      try simp only [Act.put, List.setIfInBounds_toArray, List.set_cons_zero, List.set_cons_succ]
      refine wpAnyH_take (i := 7) (oi := ⟨some 60, _, _, _, _, _⟩) (v := ?_) rfl (by kernel_rfl) (by kernel_rfl) (by kernel_rfl) (fun _ _ _ h => h) (Or.inl ⟨by rfl, ?_⟩) (by assumption) ?_
      rotate_left
      · intro w hSw; (try dsimp only at hSw); go_simp; try with_reducible rfl
      try simp only [Act.put, List.setIfInBounds_toArray, List.set_cons_zero, List.set_cons_succ]
      refine wpAnyH_take (i := 8) (oi := ⟨some 61, _, _, _, _, _⟩) (v := ?_) rfl (by kernel_rfl) (by kernel_rfl) (by kernel_rfl) (fun _ _ _ h => h) (Or.inl ⟨by rfl, ?_⟩) (by assumption) ?_
      rotate_left
      · intro w hSw; (try dsimp only at hSw); go_simp; try with_reducible rfl
      try simp only [Act.put, List.setIfInBounds_toArray, List.set_cons_zero, List.set_cons_succ]
      refine wpAnyH_take (i := 9) (oi := ⟨some 13, _, _, _, _, _⟩) (v := ?_) rfl (by kernel_rfl) (by kernel_rfl) (by kernel_rfl) (fun _ _ _ h => h) (Or.inl ⟨by rfl, ?_⟩) (by assumption) ?_
      rotate_left
      · intro w hSw; (try dsimp only at hSw); go_simp; try with_reducible rfl
      try simp only [Act.put, List.setIfInBounds_toArray, List.set_cons_zero, List.set_cons_succ]
      refine wpAnyH_take (i := 10) (oi := ⟨some 14, _, _, _, _, _⟩) (v := ?_) rfl (by kernel_rfl) (by kernel_rfl) (by kernel_rfl) (fun _ _ _ h => h) (Or.inl ⟨by rfl, ?_⟩) (by assumption) ?_
      rotate_left
      · intro w hSw; (try dsimp only at hSw); go_simp; try with_reducible rfl
      try simp only [Act.put, List.setIfInBounds_toArray, List.set_cons_zero, List.set_cons_succ]
      refine wpAnyH_done (by kernel_rfl) ?_ _
      (try dsimp only [Exit.then, Met])
      have hb9 : Below w2.heap.size w2 w3 := HBE.out.trans (HB3.out.mono hszr)
      have HB9 := Lib.hid hb9
      clear hb9 p0 p1
      cases y
      · go_wp2
        go_roundw
        case rel => exact ⟨k + 1, by go_num, by omega, rfl, ⟨n, rfl, Lib.hid (by rw [HC2.out, HN.out]; simp)⟩, HB9.out⟩
        case measure => simp [intOf]; omega
      · have hq := HK2.out rfl
        obtain ⟨rfl, rfl⟩ : q1 = x5 ∧ q2 = x6 := by simpa using hq
        clear hq
        have hn12 : n ≤ 12 := by rw [HN.out]; unfold cnK; exact Nat.le_trans List.countP_le_length (by rw [List.length_take]; omega)
        go_wp2
        go_roundw
        case rel => exact ⟨k + 1, by go_num, by omega, rfl, ⟨n + 1, by go_num, Lib.hid (by rw [HC2.out, HN.out]; simp)⟩, HB9.out⟩
        case measure => simp [intOf]; omega
    · obtain rfl : k = l.length := by omega
      have hE := HE.out
      rw [← HN.out] at hE
      obtain ⟨hn1, hE2⟩ := hE
      have hnn : n = 0 ∨ n = 1 := by omega
      have hfin : n = 1 ∨ (n = 0 ∧ q1 = 0 ∧ q2 = 0) := by
        rcases hE2 with h | h
        · exact .inl h
        · rcases hnn with g | g
          · exact .inr ⟨g, by simpa using h⟩
          · exact .inl g
      clear hE2 hnn hn1
      by_cases hl0 : l.length = 0
      · have hb9 := HBW.out
        have HB9 := Lib.hid hb9
        clear hb9
        rcases hfin with rfl | ⟨rfl, rfl, rfl⟩
        all_goals
          go_wp2
          go_ret
          exact ⟨rfl, HB9.out⟩
      · obtain ⟨b, off, rfl, hr⟩ := HP.out (by omega)
        have hbl := hr.lt (by omega)
        have HR0 := Lib.hid hr
        clear hr
        obtain ⟨kk, hkk, hkl⟩ := mod_ex (z := z) (n := l.length) hz.1 (by omega)
        have ww1 : wrap64 z = z := IntWalk.wrap64_in _ (by omega)
        have ww2 : IntKind.i64.wrap z = z := IntWalk.i64_in _ (by omega)
        have ww3 : wrap64 (z.tmod (l.length : Int)) = (kk : Int) := by rw [hkk]; exact IntWalk.wrap64_in _ (by omega)
        have ww4 : IntKind.i64.wrap (z.tmod (l.length : Int)) = (kk : Int) := by rw [hkk]; exact IntWalk.i64_in _ (by omega)
        have hlk : ¬ ca = kk := by omega
        have hlk2 : kk ≤ l.length := by omega
        have hlk3 : kk ≤ ca := by omega
        have hlk0 : ¬ (l.length : Int) = 0 := by omega
        go_wp2_with fail
        refine wp_region_held_drew (S := fun w' => w'.cell? ⟨w.heap.size, 0, none⟩ = some (.int .i64 v1) ∧ w'.cell? ⟨w.heap.size, 1, none⟩ = some (.int .i64 v2)) (by kernel_rfl) (by first | (go_keep; done) | ((repeat' apply And.intro) <;> go_simp)) (fun hHeld => ?_)
        refine wpAnyH_take (i := 1) (oi := ⟨some 96, _, _, _, _, _⟩) (v := ?_) rfl (by kernel_rfl) (by kernel_rfl) (by kernel_rfl) (fun _ _ _ h => h) (Or.inl ⟨by rfl, ?_⟩) (by assumption) ?_
        rotate_left
        · intro w hSw; (try dsimp only at hSw); go_simp; try with_reducible rfl
        try simp only [Act.put, List.setIfInBounds_toArray, List.set_cons_zero, List.set_cons_succ]
        refine wpAnyH_take (i := 2) (oi := ⟨some 97, _, _, _, _, _⟩) (v := ?_) rfl (by kernel_rfl) (by kernel_rfl) (by kernel_rfl) (fun _ _ _ h => h) (Or.inl ⟨by rfl, ?_⟩) (by assumption) ?_
        rotate_left
        · intro w hSw; (try dsimp only at hSw); go_simp; try with_reducible rfl
        try simp only [Act.put, List.setIfInBounds_toArray, List.set_cons_zero, List.set_cons_succ]
        refine wpAnyH_take (i := 3) (oi := ⟨some 98, _, _, _, _, _⟩) (v := ?_) rfl (by kernel_rfl) (by kernel_rfl) (by kernel_rfl) (fun _ _ _ h => h) (Or.inl ⟨by rfl, ?_⟩) (by assumption) ?_
        rotate_left
        · intro w hSw; (try dsimp only at hSw); go_simp; try with_reducible rfl
        try simp only [Act.put, List.setIfInBounds_toArray, List.set_cons_zero, List.set_cons_succ]
        refine wpAnyH_take (i := 5) (oi := ⟨some 100, _, _, _, _, _⟩) (v := ?_) rfl (by kernel_rfl) (by kernel_rfl) (by kernel_rfl) (fun _ _ _ h => h) (Or.inl ⟨by rfl, ?_⟩) (by assumption) ?_
        rotate_left
        · intro w hSw; (try dsimp only at hSw); go_simp; try with_reducible rfl
        try simp only [Act.put, List.setIfInBounds_toArray, List.set_cons_zero, List.set_cons_succ]
        refine wpAnyH_take (i := 6) (oi := ⟨some 101, _, _, _, _, _⟩) (v := ?_) rfl (by kernel_rfl) (by kernel_rfl) (by kernel_rfl) (fun _ _ _ h => h) (Or.inl ⟨by rfl, ?_⟩) (by assumption) ?_
        rotate_left
        · intro w hSw; (try dsimp only at hSw); go_simp; try with_reducible rfl
        try simp only [Act.put, List.setIfInBounds_toArray, List.set_cons_zero, List.set_cons_succ]
        refine wpAnyH_take (i := 7) (oi := ⟨some 102, _, _, _, _, _⟩) (v := ?_) rfl (by kernel_rfl) (by kernel_rfl) (by kernel_rfl) (fun _ _ _ h => h) (Or.inl ⟨by rfl, ?_⟩) (by assumption) ?_
        rotate_left
        · intro w hSw; (try dsimp only at hSw); go_simp; try with_reducible rfl
        try simp only [Act.put, List.setIfInBounds_toArray, List.set_cons_zero, List.set_cons_succ]
        refine wpAnyH_take (i := 9) (oi := ⟨some 104, _, _, _, _, _⟩) (v := ?_) rfl (by kernel_rfl) (by kernel_rfl) (by kernel_rfl) (fun _ _ _ h => h) (Or.inl ⟨by rfl, ?_⟩) (by assumption) ?_
        rotate_left
        · intro w hSw; (try dsimp only at hSw); go_simp; try with_reducible rfl
        try simp only [Act.put, List.setIfInBounds_toArray, List.set_cons_zero, List.set_cons_succ]
        refine wpAnyH_ready (rs := [0]) (by kernel_rfl) (by simp) ?_
        refine AllReadyH.cons (o := ⟨some 95, _, _, _, _, _⟩) rfl (fun KK hKK => ?_) AllReadyH.nil
        go_simp
        (try go_wp2_with fail)
        refine hKK.out _ _ (by first | (go_keep; done) | ((repeat' apply And.intro) <;> go_simp)) (fun hHeld => ?_)
        clear hKK KK
        try simp only [Act.put, List.setIfInBounds_toArray, List.set_cons_zero, List.set_cons_succ]
        refine wpAnyH_ready (rs := [4]) (by kernel_rfl) (by simp) ?_
        refine AllReadyH.cons (o := ⟨some 99, _, _, _, _, _⟩) rfl (fun KK hKK => ?_) AllReadyH.nil
        refine wp_append_own _ _ _ 22 rfl (w.heap.size + 1) 26 i0 (.agg #[(.int .i64 0), (.int .i64 0), (.int .i64 0), (.int .i64 0), (.int .i64 0), (.int .i64 0)]) 6 48 Try.underlying22 HI.out hz0 hz1 hz2 rfl (by decide) _ _ _ (by rfl) (own_empty (w := wr.drew) (show w.heap.size + 1 ≤ wr.drew.heap.size from zr)) ⟨b, off + kk * 6, none⟩ (l.length - kk) _ (flatS (l.drop kk)) (by rfl) (by rw [flatS_length]; simp; try omega) (row_news ((((HR0.out.below hbl HBW.out).below (show b < wr.heap.size by omega) (show Below wr.heap.size wr (wr.drew.alloc (.cells #[] 26)) from (by repeat (first | with_reducible exact Below.refl _ _ | with_reducible assumption | with_reducible refine Below.setCell ?_ (by first | omega | (simp <;> omega)) _ | with_reducible refine balloc ?_ _ | with_reducible refine Below.drew ?_ | with_reducible refine bstep ?_ (by with_reducible assumption))))).drop kk))) (flatS_one _) (by unfold maxLen; omega) (by omega) (by show w.heap.size + 1 ≤ (wr.alloc (.cells #[] 26)).heap.size; rw [World.size_alloc]; omega) ?_
        intro v9 w4 hown1 hgrow1 _
        have hb4 : Below (w.heap.size + 1) wr w4 := below_appS (show Below (w.heap.size + 1) wr wr.drew from (by repeat (first | with_reducible exact Below.refl _ _ | with_reducible assumption | with_reducible refine Below.setCell ?_ (by first | omega | (simp <;> omega)) _ | with_reducible refine balloc ?_ _ | with_reducible refine Below.drew ?_ | with_reducible refine bstep ?_ (by with_reducible assumption)))) zr (own_empty (w := wr.drew) (show w.heap.size + 1 ≤ wr.drew.heap.size from zr)) hgrow1
        have d6 := (hb4.cell (p := ⟨w.heap.size, 0, none⟩) (by simp)).trans p0
        have d7 := (hb4.cell (p := ⟨w.heap.size, 1, none⟩) (by simp)).trans p1
        have HB4 := Lib.hid hb4
        have hs4 := hb4.size
        have HO4 := Lib.hid hown1
        clear hown1 hgrow1 hb4
        (try go_wp2_with fail)
        refine hKK.out _ _ (by first | (go_keep; done) | ((repeat' apply And.intro) <;> go_simp)) (fun hHeld => ?_)
        clear hKK KK
        try simp only [Act.put, List.setIfInBounds_toArray, List.set_cons_zero, List.set_cons_succ]
        refine wpAnyH_ready (rs := [8]) (by kernel_rfl) (by simp) ?_
        refine AllReadyH.cons (o := ⟨some 103, _, _, _, _, _⟩) rfl (fun KK hKK => ?_) AllReadyH.nil
        refine wp_append_own _ _ _ 22 rfl (w.heap.size + 1) 26 i0 (.agg #[(.int .i64 0), (.int .i64 0), (.int .i64 0), (.int .i64 0), (.int .i64 0), (.int .i64 0)]) 6 48 Try.underlying22 HI.out hz0 hz1 hz2 rfl (by decide) _ _ _ (by rfl) (HO4.out) ⟨b, off, none⟩ (kk) _ (flatS (l.take kk)) (by rfl) (by rw [flatS_length]; simp; try omega) (row_news (((HR0.out.below hbl HBW.out).below (show b < w.heap.size + 1 by omega) HB4.out).take kk)) (flatS_one _) (by unfold maxLen; omega) (by omega) (by omega) ?_
        intro v10 w5 hown2 hgrow2 _
        have hb5 : Below (w.heap.size + 1) wr w5 := below_app2 HB4.out HO4.out (by omega) hgrow2
        have f6 := (hb5.cell (p := ⟨w.heap.size, 0, none⟩) (by simp)).trans p0
        have f7 := (hb5.cell (p := ⟨w.heap.size, 1, none⟩) (by simp)).trans p1
        have hsec : Secs w5 v10 (roL l kk) := own_secs (base := w.heap.size + 1) (by have h := hown2; rw [show 0 + (l.length - kk) + kk = (roL l kk).length by rw [← (roL_perm l kk).length_eq]; omega, List.nil_append, ← flatS_app] at h; exact h) (by rw [← (roL_perm l kk).length_eq]; omega)
        have HB5 := Lib.hid hb5
        have HO5 := Lib.hid hsec
        have hs5 := hb5.size
        clear hown2 hgrow2 hb5 hsec
        (try go_wp2_with fail)
        refine hKK.out _ _ (by first | (go_keep; done) | ((repeat' apply And.intro) <;> go_simp)) (fun hHeld => ?_)
        clear hKK KK
        try simp only [Act.put, List.setIfInBounds_toArray, List.set_cons_zero, List.set_cons_succ]
        refine wpAnyH_ready (rs := [10]) (by kernel_rfl) (by simp) ?_
        refine AllReadyH.cons (o := ⟨some 105, _, _, _, _, _⟩) rfl (fun KK hKK => ?_) AllReadyH.nil
        go_simp
        refine Calls.mono (CR.out kk _ _ HO5.out) ?_
        rintro e w6 ⟨rfl, hb6⟩
        have hb6x : Below (w.heap.size + 1) wr w6 := HB5.out.trans (hb6.mono (by omega))
        have g6 := (hb6x.cell (p := ⟨w.heap.size, 0, none⟩) (by simp)).trans p0
        have g7 := (hb6x.cell (p := ⟨w.heap.size, 1, none⟩) (by simp)).trans p1
        have HB6 := Lib.hid (HBW.out.trans (hb6x.mono (by omega)))
        clear hb6 hb6x
        (try go_wp2_with fail)
        refine hKK.out _ _ (by first | (go_keep; done) | ((repeat' apply And.intro) <;> go_simp)) (fun hHeld => ?_)
        clear hKK KK
        try simp only [Act.put, List.setIfInBounds_toArray, List.set_cons_zero, List.set_cons_succ]
        refine wpAnyH_take (i := 11) (oi := ⟨some 94, _, _, _, _, _⟩) (v := ?_) rfl (by kernel_rfl) (by kernel_rfl) (by kernel_rfl) (fun _ _ _ h => h) (Or.inl ⟨by rfl, ?_⟩) (by assumption) ?_
        rotate_left
        · intro w hSw; (try dsimp only at hSw); go_simp; try with_reducible rfl
        try simp only [Act.put, List.setIfInBounds_toArray, List.set_cons_zero, List.set_cons_succ]
        refine wpAnyH_take (i := 12) (oi := ⟨some 106, _, _, _, _, _⟩) (v := ?_) rfl (by kernel_rfl) (by kernel_rfl) (by kernel_rfl) (fun _ _ _ h => h) (Or.inl ⟨by rfl, ?_⟩) (by assumption) ?_
        rotate_left
        · intro w hSw; (try dsimp only at hSw); go_simp; try with_reducible rfl
        try simp only [Act.put, List.setIfInBounds_toArray, List.set_cons_zero, List.set_cons_succ]
        refine wpAnyH_take (i := 13) (oi := ⟨some 107, _, _, _, _, _⟩) (v := ?_) rfl (by kernel_rfl) (by kernel_rfl) (by kernel_rfl) (fun _ _ _ h => h) (Or.inl ⟨by rfl, ?_⟩) (by assumption) ?_
        rotate_left
        · intro w hSw; (try dsimp only at hSw); go_simp; try with_reducible rfl
        try simp only [Act.put, List.setIfInBounds_toArray, List.set_cons_zero, List.set_cons_succ]
        refine wpAnyH_take (i := 14) (oi := ⟨some 108, _, _, _, _, _⟩) (v := ?_) rfl (by kernel_rfl) (by kernel_rfl) (by kernel_rfl) (fun _ _ _ h => h) (Or.inl ⟨by rfl, ?_⟩) (by assumption) ?_
        rotate_left
        · intro w hSw; (try dsimp only at hSw); go_simp; try with_reducible rfl
        try simp only [Act.put, List.setIfInBounds_toArray, List.set_cons_zero, List.set_cons_succ]
        refine wpAnyH_take (i := 15) (oi := ⟨some 16, _, _, _, _, _⟩) (v := ?_) rfl (by kernel_rfl) (by kernel_rfl) (by kernel_rfl) (fun _ _ _ h => h) (Or.inl ⟨by rfl, ?_⟩) (by assumption) ?_
        rotate_left
        · intro w hSw; (try dsimp only at hSw); go_simp; try with_reducible rfl
        try simp only [Act.put, List.setIfInBounds_toArray, List.set_cons_zero, List.set_cons_succ]
        refine wpAnyH_take (i := 16) (oi := ⟨some 17, _, _, _, _, _⟩) (v := ?_) rfl (by kernel_rfl) (by kernel_rfl) (by kernel_rfl) (fun _ _ _ h => h) (Or.inl ⟨by rfl, ?_⟩) (by assumption) ?_
        rotate_left
        · intro w hSw; (try dsimp only at hSw); go_simp; try with_reducible rfl
        try simp only [Act.put, List.setIfInBounds_toArray, List.set_cons_zero, List.set_cons_succ]
        refine wpAnyH_take (i := 17) (oi := ⟨some 18, _, _, _, _, _⟩) (v := ?_) rfl (by kernel_rfl) (by kernel_rfl) (by kernel_rfl) (fun _ _ _ h => h) (Or.inl ⟨by rfl, ?_⟩) (by assumption) ?_
        rotate_left
        · intro w hSw; (try dsimp only at hSw); go_simp; try with_reducible rfl
        try simp only [Act.put, List.setIfInBounds_toArray, List.set_cons_zero, List.set_cons_succ]
        refine wpAnyH_done (by kernel_rfl) ?_ _
        (try dsimp only [Exit.then, Met])
        clear p0 p1
        rcases hfin with rfl | ⟨rfl, rfl, rfl⟩
        all_goals
          go_wp2
          go_ret
          exact ⟨rfl, HB6.out⟩

end Go.Proofs.Ytpadkmlckmopfaa.Se
