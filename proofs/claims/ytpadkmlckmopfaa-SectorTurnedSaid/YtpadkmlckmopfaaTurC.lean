/- TurC: a quarter turn of a list. -/
import Derived.Test.YtpadkmlckmopfaaTurB
import Derived.Test.YtpadkmlckmopfaaSecW
import Derived.Test.YtpadkmlckmopfaaSecT
import Derived.Test.YtpadkmlckmopfaaSecU
import Derived.Test.YtpadkmlckmopfaaSecV
import Derived.Test.YtpadkmlckmopfaaRows
import Derived.WalkKit
import Derived.WalkSpells
import Derived.WalkLawsBesides
import Derived.Lib.Hide
import Derived.Deep.QuietTactic
import Derived.BigQuiet
import Derived.RegionTactic
import Derived.ChangeAlike
import Derived.BigRegion
import Derived.Deep.RegionHeld3
import Derived.Deep.RegionWith
import Derived.Outline
import Derived.IntWalk
import Derived.Deep.DeepCutAuto
import Derived.LoopTactic
import Derived.OwnWalk
import Derived.Laws.OwnMore
import Derived.StillTailTactics
import Derived.RangeFuncBox
import Derived.RangeFuncNested
namespace Go.Proofs.Ytpadkmlckmopfaa.Se
open Go.RowKit
set_option linter.unusedSimpArgs false
set_option linter.unusedVariables false

theorem quL_len (l : List Sec) : (quL l).length = l.length := List.length_map _
theorem quL_gs {l : List Sec} {k : Nat} (h : k < l.length) : gs (quL l) k = qS (gs l k) := by
  unfold gs quL
  rw [List.getD_eq_getElem?_getD, List.getD_eq_getElem?_getD, List.getElem?_map, List.getElem?_eq_getElem h]
  rfl
theorem quL_step {l : List Sec} {k : Nat} (h : k < l.length) : flatS ((quL l).take (k + 1)) = flatS ((quL l).take k) ++ [(.int .i64 (-(gs l k).fy)), (.int .i64 ((gs l k).fx)), (.int .i64 (-(gs l k).ty)), (.int .i64 ((gs l k).tx)), (.int .i64 ((gs l k).co)), (.int .i64 ((gs l k).ra))] := by
  rw [take_succ_gs (by rw [quL_len]; exact h), flatS_app, quL_gs h]
  rfl
theorem sec_bd {s : Sec} (h : vaS s = true) : (-1000000 ≤ s.fy ∧ s.fy ≤ 1000000) ∧ -1000000 ≤ s.ty ∧ s.ty ≤ 1000000 := by
  have a := vaS_iff.1 h
  have f := (okD_iff.1 a.1).2.2
  have t := (okD_iff.1 a.2.1).2.2
  exact ⟨f, t⟩
theorem below_appT {B : Nat} {W0 wA w' : World} {o : Obj} {e : TypeId} {size : Nat} {v : Value} {n : Nat} {xs : List Value} (hb : Below B W0 wA) (hB : B ≤ wA.heap.size) (hown : wA.ownsRow B e size v n xs) (hg : (wA.alloc o).grownBy w' v.ownBlock) : Below B W0 w' := by
  refine below_app2 (hb.alloc hB o) (v := v) (n := n) (xs := xs) (e := e) (size := size) (hown.alloc _) (by simp; omega) hg
theorem app_cell {W w' : World} {o : Obj} {v : Value} {p : Addr} {u : Value} (hp : ∀ g, v.ownBlock = some g → g ≠ p.block) (hg : (W.alloc o).grownBy w' v.ownBlock) (hc : W.cell? p = some u) : w'.cell? p = some u := by
  have h1 : (W.alloc o).cell? p = some u := cell_al _ hc
  have hlt := World.block_lt_of_cell? _ _ h1
  have hb := hg.block p.block hlt (fun e => hp _ e.symm rfl)
  rw [← h1]
  simp [World.cell?, hb]
set_option maxRecDepth 100000 in
set_option maxHeartbeats 6400000 in
theorem quarter_c (a : Value) (l : List Sec) (w : World) (ha : Secs w a l) (hl : vaL l = true) : Calls Try.prog 31 #[a] w fun e W' => ∃ v, e = .returned v ∧ W'.ownsRow w.heap.size 26 6 v l.length (flatS (quL l)) ∧ Below w.heap.size w W' := by
  obtain ⟨⟨pa, ca, rfl, _, _, hpa⟩, _⟩ := ha
  have HL := Lib.hid hpa
  have l12 := (vaL_all hl).1
  have all := (vaL_all hl).2
  clear hpa hl
  obtain ⟨i0, hi, hz0, hz1, hz2⟩ := info_parts info_s
  have HI := Lib.hid hi
  clear hi
  go_enter Try.func31, Try.ntmps31
  go_wp2
  go_loopw [3, 4] (fun o i wr => ∃ k : Nat, i = (.int .i64 k) ∧ k ≤ l.length ∧ Hid (wr.ownsRow w.heap.size 26 6 o k (flatS ((quL l).take k))) ∧ Below w.heap.size w wr) (fun _ i _ => l.length - (intOf i).toNat)
  case atStart => exact ⟨0, rfl, by omega, Lib.hid (World.ownsRow_nil _ _ _ _), Below.refl _ _⟩
  case round =>
    obtain ⟨k, rfl, hk, HO, hbel⟩ := hrel
    by_cases hlt : k < l.length
    · obtain ⟨b, off, rfl, hr⟩ := HL.out (by omega)
      have hbw := hr.lt (by omega)
      obtain ⟨c0, c1, c2, c3, c4, c5⟩ := (hr.below hbw hbel) k hlt
      have hsz := hbel.size
      have hbr : b < wr.heap.size := by omega
      have hbd := sec_bd (all k hlt)
      have HB := Lib.hid hbel
      clear hbel hr
      generalize hx1 : (gs l k).fx = x1 at *
      generalize hx2 : (gs l k).fy = x2 at *
      generalize hx3 : (gs l k).tx = x3 at *
      generalize hx4 : (gs l k).ty = x4 at *
      generalize hx5 : (gs l k).co = x5 at *
      generalize hx6 : (gs l k).ra = x6 at *
      have HX := Lib.hid (And.intro hx1 (And.intro hx2 (And.intro hx3 (And.intro hx4 (And.intro hx5 hx6)))))
      clear hx1 hx2 hx3 hx4 hx5 hx6
      obtain ⟨⟨y1, y2⟩, y3, y4⟩ := hbd
      have ww1 : wrap64 (-x2) = -x2 := IntWalk.wrap64_in _ (by omega)
      have ww2 : IntKind.i64.wrap (-x2) = -x2 := IntWalk.i64_in _ (by omega)
      have ww3 : wrap64 (-x4) = -x4 := IntWalk.wrap64_in _ (by omega)
      have ww4 : IntKind.i64.wrap (-x4) = -x4 := IntWalk.i64_in _ (by omega)
      go_wp2_with fail
      refine wp_region_held_drew (S := fun w' => w'.cell? ⟨wr.heap.size, 0, none⟩ = some (.int .i64 x1) ∧ w'.cell? ⟨wr.heap.size, 1, none⟩ = some (.int .i64 x2) ∧ w'.cell? ⟨wr.heap.size, 2, none⟩ = some (.int .i64 x3) ∧ w'.cell? ⟨wr.heap.size, 3, none⟩ = some (.int .i64 x4) ∧ w'.cell? ⟨wr.heap.size, 4, none⟩ = some (.int .i64 x5) ∧ w'.cell? ⟨wr.heap.size, 5, none⟩ = some (.int .i64 x6)) (by kernel_rfl) (by first | (go_keep; done) | ((repeat' apply And.intro) <;> go_simp)) (fun hHeld => ?_)
      refine wpAnyH_take (i := 0) (oi := ⟨some 20, _, _, _, _, _⟩) (v := ?_) rfl (by kernel_rfl) (by kernel_rfl) (by kernel_rfl) (fun _ _ _ h => h) (Or.inl ⟨by rfl, ?_⟩) (by assumption) ?_
      rotate_left
      · intro w hSw; (try dsimp only at hSw); go_simp; try with_reducible rfl
      try simp only [Act.put, List.setIfInBounds_toArray, List.set_cons_zero, List.set_cons_succ]
      refine wpAnyH_take (i := 1) (oi := ⟨some 21, _, _, _, _, _⟩) (v := ?_) rfl (by kernel_rfl) (by kernel_rfl) (by kernel_rfl) (fun _ _ _ h => h) (Or.inl ⟨by rfl, ?_⟩) (by assumption) ?_
      rotate_left
      · intro w hSw; (try dsimp only at hSw); go_simp; try with_reducible rfl
      try simp only [Act.put, List.setIfInBounds_toArray, List.set_cons_zero, List.set_cons_succ]
      refine wpAnyH_take (i := 2) (oi := ⟨some 22, _, _, _, _, _⟩) (v := ?_) rfl (by kernel_rfl) (by kernel_rfl) (by kernel_rfl) (fun _ _ _ h => h) (Or.inl ⟨by rfl, ?_⟩) (by assumption) ?_
      rotate_left
      · intro w hSw; (try dsimp only at hSw); go_simp; try with_reducible rfl
      try simp only [Act.put, List.setIfInBounds_toArray, List.set_cons_zero, List.set_cons_succ]
      refine wpAnyH_take (i := 3) (oi := ⟨some 23, _, _, _, _, _⟩) (v := ?_) rfl (by kernel_rfl) (by kernel_rfl) (by kernel_rfl) (fun _ _ _ h => h) (Or.inl ⟨by rfl, ?_⟩) (by assumption) ?_
      rotate_left
      · intro w hSw; (try dsimp only at hSw); go_simp; try with_reducible rfl
      try simp only [Act.put, List.setIfInBounds_toArray, List.set_cons_zero, List.set_cons_succ]
      refine wpAnyH_take (i := 4) (oi := ⟨some 24, _, _, _, _, _⟩) (v := ?_) rfl (by kernel_rfl) (by kernel_rfl) (by kernel_rfl) (fun _ _ _ h => h) (Or.inl ⟨by rfl, ?_⟩) (by assumption) ?_
      rotate_left
      · intro w hSw; (try dsimp only at hSw); go_simp; try with_reducible rfl
      try simp only [Act.put, List.setIfInBounds_toArray, List.set_cons_zero, List.set_cons_succ]
      refine wpAnyH_take (i := 5) (oi := ⟨some 25, _, _, _, _, _⟩) (v := ?_) rfl (by kernel_rfl) (by kernel_rfl) (by kernel_rfl) (fun _ _ _ h => h) (Or.inl ⟨by rfl, ?_⟩) (by assumption) ?_
      rotate_left
      · intro w hSw; (try dsimp only at hSw); go_simp; try with_reducible rfl
      try simp only [Act.put, List.setIfInBounds_toArray, List.set_cons_zero, List.set_cons_succ]
      refine wpAnyH_take (i := 6) (oi := ⟨some 26, _, _, _, _, _⟩) (v := ?_) rfl (by kernel_rfl) (by kernel_rfl) (by kernel_rfl) (fun _ _ _ h => h) (Or.inl ⟨by rfl, ?_⟩) (by assumption) ?_
      rotate_left
      · intro w hSw; (try dsimp only at hSw); go_simp; try with_reducible rfl
      try simp only [Act.put, List.setIfInBounds_toArray, List.set_cons_zero, List.set_cons_succ]
      refine wpAnyH_take (i := 7) (oi := ⟨some 27, _, _, _, _, _⟩) (v := ?_) rfl (by kernel_rfl) (by kernel_rfl) (by kernel_rfl) (fun _ _ _ h => h) (Or.inl ⟨by rfl, ?_⟩) (by assumption) ?_
      rotate_left
      · intro w hSw; (try dsimp only at hSw); go_simp; try with_reducible rfl
      try simp only [Act.put, List.setIfInBounds_toArray, List.set_cons_zero, List.set_cons_succ]
      refine wpAnyH_take (i := 8) (oi := ⟨some 28, _, _, _, _, _⟩) (v := ?_) rfl (by kernel_rfl) (by kernel_rfl) (by kernel_rfl) (fun _ _ _ h => h) (Or.inl ⟨by rfl, ?_⟩) (by assumption) ?_
      rotate_left
      · intro w hSw; (try dsimp only at hSw); go_simp; try with_reducible rfl
      try simp only [Act.put, List.setIfInBounds_toArray, List.set_cons_zero, List.set_cons_succ]
      refine wpAnyH_take (i := 9) (oi := ⟨some 29, _, _, _, _, _⟩) (v := ?_) rfl (by kernel_rfl) (by kernel_rfl) (by kernel_rfl) (fun _ _ _ h => h) (Or.inl ⟨by rfl, ?_⟩) (by assumption) ?_
      rotate_left
      · intro w hSw; (try dsimp only at hSw); go_simp; try with_reducible rfl
      try simp only [Act.put, List.setIfInBounds_toArray, List.set_cons_zero, List.set_cons_succ]
      refine wpAnyH_take (i := 10) (oi := ⟨some 30, _, _, _, _, _⟩) (v := ?_) rfl (by kernel_rfl) (by kernel_rfl) (by kernel_rfl) (fun _ _ _ h => h) (Or.inl ⟨by rfl, ?_⟩) (by assumption) ?_
      rotate_left
      · intro w hSw; (try dsimp only at hSw); go_simp; try with_reducible rfl
      try simp only [Act.put, List.setIfInBounds_toArray, List.set_cons_zero, List.set_cons_succ]
      refine wpAnyH_take (i := 11) (oi := ⟨some 31, _, _, _, _, _⟩) (v := ?_) rfl (by kernel_rfl) (by kernel_rfl) (by kernel_rfl) (fun _ _ _ h => h) (Or.inl ⟨by rfl, ?_⟩) (by assumption) ?_
      rotate_left
      · intro w hSw; (try dsimp only at hSw); go_simp; try with_reducible rfl
      try simp only [Act.put, List.setIfInBounds_toArray, List.set_cons_zero, List.set_cons_succ]
      refine wpAnyH_take (i := 13) (oi := ⟨some 33, _, _, _, _, _⟩) (v := ?_) rfl (by kernel_rfl) (by kernel_rfl) (by kernel_rfl) (fun _ _ _ h => h) (Or.inl ⟨by rfl, ?_⟩) (by assumption) ?_
      rotate_left
      · intro w hSw; (try dsimp only at hSw); go_simp; try with_reducible rfl
      try simp only [Act.put, List.setIfInBounds_toArray, List.set_cons_zero, List.set_cons_succ]
      refine wpAnyH_take (i := 14) (oi := ⟨some 34, _, _, _, _, _⟩) (v := ?_) rfl (by kernel_rfl) (by kernel_rfl) (by kernel_rfl) (fun _ _ _ h => h) (Or.inl ⟨by rfl, ?_⟩) (by assumption) ?_
      rotate_left
      · intro w hSw; (try dsimp only at hSw); go_simp; try with_reducible rfl
      try simp only [Act.put, List.setIfInBounds_toArray, List.set_cons_zero, List.set_cons_succ]
      refine wpAnyH_take (i := 15) (oi := ⟨some 35, _, _, _, _, _⟩) (v := ?_) rfl (by kernel_rfl) (by kernel_rfl) (by kernel_rfl) (fun _ _ _ h => h) (Or.inl ⟨by rfl, ?_⟩) (by assumption) ?_
      rotate_left
      · intro w hSw; (try dsimp only at hSw); go_simp; try with_reducible rfl
      try simp only [Act.put, List.setIfInBounds_toArray, List.set_cons_zero, List.set_cons_succ]
      refine wpAnyH_take (i := 16) (oi := ⟨some 36, _, _, _, _, _⟩) (v := ?_) rfl (by kernel_rfl) (by kernel_rfl) (by kernel_rfl) (fun _ _ _ h => h) (Or.inl ⟨by rfl, ?_⟩) (by assumption) ?_
      rotate_left
      · intro w hSw; (try dsimp only at hSw); go_simp; try with_reducible rfl
      try simp only [Act.put, List.setIfInBounds_toArray, List.set_cons_zero, List.set_cons_succ]
      refine wpAnyH_take (i := 17) (oi := ⟨some 37, _, _, _, _, _⟩) (v := ?_) rfl (by kernel_rfl) (by kernel_rfl) (by kernel_rfl) (fun _ _ _ h => h) (Or.inl ⟨by rfl, ?_⟩) (by assumption) ?_
      rotate_left
      · intro w hSw; (try dsimp only at hSw); go_simp; try with_reducible rfl
      try simp only [Act.put, List.setIfInBounds_toArray, List.set_cons_zero, List.set_cons_succ]
      refine wpAnyH_take (i := 18) (oi := ⟨some 38, _, _, _, _, _⟩) (v := ?_) rfl (by kernel_rfl) (by kernel_rfl) (by kernel_rfl) (fun _ _ _ h => h) (Or.inl ⟨by rfl, ?_⟩) (by assumption) ?_
      rotate_left
      · intro w hSw; (try dsimp only at hSw); go_simp; try with_reducible rfl
      try simp only [Act.put, List.setIfInBounds_toArray, List.set_cons_zero, List.set_cons_succ]
      refine wpAnyH_take (i := 19) (oi := ⟨some 39, _, _, _, _, _⟩) (v := ?_) rfl (by kernel_rfl) (by kernel_rfl) (by kernel_rfl) (fun _ _ _ h => h) (Or.inl ⟨by rfl, ?_⟩) (by assumption) ?_
      rotate_left
      · intro w hSw; (try dsimp only at hSw); go_simp; try with_reducible rfl
      try simp only [Act.put, List.setIfInBounds_toArray, List.set_cons_zero, List.set_cons_succ]
      refine wpAnyH_ready (rs := [12]) (by kernel_rfl) (by simp) ?_
      refine AllReadyH.cons (o := ⟨some 32, _, _, _, _, _⟩) rfl (fun KK hKK => ?_) AllReadyH.nil
      go_simp
      refine Calls.mono (at_c _ _ _) ?_
      rintro e wt1 ⟨rfl, hbt1⟩
      have m0 : wt1.cell? ⟨wr.heap.size, 0, none⟩ = some (.int .i64 x1) := cell_later hbt1 (by go_simp)
      have m1 : wt1.cell? ⟨wr.heap.size, 1, none⟩ = some (.int .i64 x2) := cell_later hbt1 (by go_simp)
      have m2 : wt1.cell? ⟨wr.heap.size, 2, none⟩ = some (.int .i64 x3) := cell_later hbt1 (by go_simp)
      have m3 : wt1.cell? ⟨wr.heap.size, 3, none⟩ = some (.int .i64 x4) := cell_later hbt1 (by go_simp)
      have m4 : wt1.cell? ⟨wr.heap.size, 4, none⟩ = some (.int .i64 x5) := cell_later hbt1 (by go_simp)
      have m5 : wt1.cell? ⟨wr.heap.size, 5, none⟩ = some (.int .i64 x6) := cell_later hbt1 (by go_simp)
      have hBr : Below wr.heap.size wr wt1 := (by repeat (first | with_reducible exact Below.refl _ _ | with_reducible assumption | with_reducible refine Below.setCell ?_ (by first | omega | (simp <;> omega)) _ | with_reducible refine balloc ?_ _ | with_reducible refine Below.drew ?_ | with_reducible refine bstep ?_ (by with_reducible assumption)))
      clear hbt1
      (try go_wp2_with fail)
      refine hKK.out _ _ (by first | (go_keep; done) | ((repeat' apply And.intro) <;> go_simp)) (fun hHeld => ?_)
      clear hKK KK
      try simp only [Act.put, List.setIfInBounds_toArray, List.set_cons_zero, List.set_cons_succ]
      refine wpAnyH_ready (rs := [20]) (by kernel_rfl) (by simp) ?_
      refine AllReadyH.cons (o := ⟨some 40, _, _, _, _, _⟩) rfl (fun KK hKK => ?_) AllReadyH.nil
      go_simp
      refine Calls.mono (at_c _ _ _) ?_
      rintro e wt2 ⟨rfl, hbt2⟩
      replace m0 := cell_later hbt2 m0
      replace m1 := cell_later hbt2 m1
      replace m2 := cell_later hbt2 m2
      replace m3 := cell_later hbt2 m3
      replace m4 := cell_later hbt2 m4
      replace m5 := cell_later hbt2 m5
      replace hBr : Below wr.heap.size wr wt2 := bstep hBr hbt2
      clear hbt2
      (try go_wp2_with fail)
      refine hKK.out _ _ (by first | (go_keep; done) | ((repeat' apply And.intro) <;> go_simp)) (fun hHeld => ?_)
      clear hKK KK
      try simp only [Act.put, List.setIfInBounds_toArray, List.set_cons_zero, List.set_cons_succ]
      refine wpAnyH_ready (rs := [21]) (by kernel_rfl) (by simp) ?_
      refine AllReadyH.cons (o := ⟨some 41, _, _, _, _, _⟩) rfl (fun KK hKK => ?_) AllReadyH.nil
      go_simp
      refine Calls.mono (arc_c _ _ _ _ _ _ _) ?_
      rintro e wt3 ⟨rfl, hbt3⟩
      replace m0 := cell_later hbt3 m0
      replace m1 := cell_later hbt3 m1
      replace m2 := cell_later hbt3 m2
      replace m3 := cell_later hbt3 m3
      replace m4 := cell_later hbt3 m4
      replace m5 := cell_later hbt3 m5
      replace hBr : Below wr.heap.size wr wt3 := bstep hBr hbt3
      clear hbt3
      (try go_wp2_with fail)
      refine hKK.out _ _ (by first | (go_keep; done) | ((repeat' apply And.intro) <;> go_simp)) (fun hHeld => ?_)
      clear hKK KK
      try simp only [Act.put, List.setIfInBounds_toArray, List.set_cons_zero, List.set_cons_succ]
      refine wpAnyH_ready (rs := [22]) (by kernel_rfl) (by simp) ?_
      refine AllReadyH.cons (o := ⟨some 42, _, _, _, _, _⟩) rfl (fun KK hKK => ?_) AllReadyH.nil
      go_simp
      (try go_wp2_with fail)
      refine hKK.out _ _ (by first | (go_keep; done) | ((repeat' apply And.intro) <;> go_simp)) (fun hHeld => ?_)
      clear hKK KK
      try simp only [Act.put, List.setIfInBounds_toArray, List.set_cons_zero, List.set_cons_succ]
      refine wpAnyH_ready (rs := [23]) (by kernel_rfl) (by simp) ?_
      refine AllReadyH.cons (o := ⟨some 43, _, _, _, _, _⟩) rfl (fun KK hKK => ?_) AllReadyH.nil
      have hsw := hBr.size
      have HO3 := own_below HO.out hBr
      refine wp_append_own _ _ _ 22 rfl w.heap.size 26 i0 (.agg #[(.int .i64 0), (.int .i64 0), (.int .i64 0), (.int .i64 0), (.int .i64 0), (.int .i64 0)]) 6 48 Try.underlying22 HI.out hz0 hz1 hz2 rfl (by decide) _ _ _ (by rfl) (HO3.alloc _) ⟨wt3.heap.size, 0, none⟩ 1 1 [(.int .i64 (-x2)), (.int .i64 x1), (.int .i64 (-x4)), (.int .i64 x3), (.int .i64 x5), (.int .i64 x6)] (by rfl) rfl (six_new _ _ _ _ _ _ _ _) (by simp [Value.oneCell']) (by unfold maxLen; omega) (by omega) (by rw [World.size_alloc]; omega) ?_
      intro v9 w9 hown1 hgrow1 _
      have hR9 := below_appT (HB.out.trans (hBr.mono hsz)) (by omega) HO3 hgrow1
      have nb : ∀ t u, wt3.cell? ⟨wr.heap.size, t, none⟩ = some u → w9.cell? ⟨wr.heap.size, t, none⟩ = some u := fun t u h => app_cell (fun g hg => by have := HO.out.lt g hg; show g ≠ wr.heap.size; omega) hgrow1 h
      replace m0 := nb _ _ m0
      replace m1 := nb _ _ m1
      replace m2 := nb _ _ m2
      replace m3 := nb _ _ m3
      replace m4 := nb _ _ m4
      replace m5 := nb _ _ m5
      have HR9 := Lib.hid hR9
      have HO9 := Lib.hid hown1
      clear hR9 hown1 hgrow1 nb HO3
      (try go_wp2_with fail)
      refine hKK.out _ _ (by first | (go_keep; done) | ((repeat' apply And.intro) <;> go_simp)) (fun hHeld => ?_)
      clear hKK KK
      try simp only [Act.put, List.setIfInBounds_toArray, List.set_cons_zero, List.set_cons_succ]
      refine wpAnyH_take (i := 24) (oi := ⟨some 3, _, _, _, _, _⟩) (v := ?_) rfl (by kernel_rfl) (by kernel_rfl) (by kernel_rfl) (fun _ _ _ h => h) (Or.inl ⟨by rfl, ?_⟩) (by assumption) ?_
      rotate_left
      · intro w hSw; (try dsimp only at hSw); go_simp; try with_reducible rfl
      try simp only [Act.put, List.setIfInBounds_toArray, List.set_cons_zero, List.set_cons_succ]
      refine wpAnyH_done (by kernel_rfl) ?_ _
      (try dsimp only [Exit.then, Met])
      clear m0 m1 m2 m3 m4 m5 c0 c1 c2 c3 c4 c5
      go_wp2
      go_roundw
      case rel => exact ⟨k + 1, by go_num, by omega, Lib.hid (by
        have h := HO9.out
        obtain ⟨y1, y2, y3, y4, y5, y6⟩ := HX.out
        rw [quL_step hlt, y1, y2, y3, y4, y5, y6]
        exact h), HR9.out⟩
      case measure => simp [intOf]; omega
    · obtain rfl : k = l.length := by omega
      have HB := Lib.hid hbel
      clear hbel
      go_wp2
      go_ret
      exact ⟨_, rfl, by have h := HO.out; rw [List.take_of_length_le (by rw [quL_len]; omega)] at h; exact h, HB.out⟩

end Go.Proofs.Ytpadkmlckmopfaa.Se
