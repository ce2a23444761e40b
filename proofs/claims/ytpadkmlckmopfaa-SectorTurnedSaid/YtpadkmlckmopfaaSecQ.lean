/- SecQ: changes. -/
import Derived.Test.YtpadkmlckmopfaaSecR
import Derived.RangeFuncNested
import Derived.LoopTactic
import Derived.Deep.DeepCutAuto
import Derived.Deep.QuietTactic
import Derived.RangeFuncBound
import Derived.RangeFuncCalls
import Derived.RangeFuncLeaves
import Derived.Shelf.Abstract
import Derived.Shelf.RegionOpen
import Derived.WalkKit
import Derived.OwnWalkIn
import Derived.TacticsInMore
import Derived.LoopNIn
import Derived.LoopIn
import Derived.Outline
import Derived.IntWalk
import Derived.Lib.Hide
import Derived.StillTailTactics
import Derived.BigRegion
import Derived.Deep.RegionWith
import Derived.RangeFuncBox
import Derived.Maps.AppendAt
namespace Go.Proofs.Ytpadkmlckmopfaa.Se
open Go.RowKit Go.Shelf
set_option linter.unusedSimpArgs false
set_option linter.unusedVariables false

attribute [local go_sem] Oper.semAt_some
def ChPost (w : World) (l : List Sec) (e : Ending) (W' : World) : Prop := ∃ v, e = .returned v ∧ W'.ownsRow w.heap.size 55 2 v (chL l).length (flatV (chL l)) ∧ Below w.heap.size w W'
def lsDl (ys : List Di) : List Dl := ys.map fun x => ⟨leV x.1, (le_gc x.2).1, (le_gc x.2).2⟩
theorem lsDl_val (ys : List Di) : (lsDl ys).map (·.1) = lsD ys := by simp [lsDl, lsD]
theorem lsD_tu {l : List Sec} (h : allS l) : lsD (tuD l) = (tuL l).map leV := by rw [← tuD_val h]; simp [lsD]
theorem chK_len (l : List Sec) (s : List V) (k : Nat) : (chK l s k).length ≤ k := by
  induction k with
  | zero => simp [chK]
  | succ k ih => simp only [chK, List.length_append]; split <;> simp <;> omega
theorem srV_mem {l : List V} {x : V} (h : x ∈ srV l) : x ∈ l := (List.mergeSort_perm _ _).mem_iff.1 h
theorem gv_mem {l : List V} {i : Nat} (h : i < l.length) : gv l i ∈ l := by
  unfold gv
  rw [List.getD_eq_getElem?_getD, List.getElem?_eq_getElem h]
  exact List.getElem_mem h
theorem own_rowV {W : World} {base g n cap : Nat} {l : List V} (h : W.ownsRow base 55 2 (.slice (some ⟨g, 0, none⟩) n cap) n (flatV l)) (hl : l.length ≤ n) : RowV W g 0 l := fun i hi => by
  obtain ⟨e1, e2⟩ := flatV_get l i hi
  have c1 := h.cellAt (i * 2) (by omega)
  have c2 := h.cellAt (i * 2 + 1) (by omega)
  rw [Nat.zero_add]
  exact ⟨c1.trans e1, c2.trans e2⟩
theorem RowV.below {w W : World} {b off B : Nat} {l : List V} (h : RowV w b off l) (hb : b < B) (hB : Below B w W) : RowV W b off l :=
  fun i hi => ⟨(hB.cell (p := ⟨b, off + i * 2, none⟩) hb).trans (h i hi).1, (hB.cell (p := ⟨b, off + i * 2 + 1, none⟩) hb).trans (h i hi).2⟩
theorem below_app {B : Nat} {W0 wA w' : World} {o : Obj} {e : TypeId} {size : Nat} {v : Value} {n : Nat} {xs : List Value} (hb : Below B W0 wA) (hB : B ≤ wA.heap.size) (hown : wA.ownsRow B e size v n xs) (hg : (wA.alloc o).grownBy w' v.ownBlock) : Below B W0 w' := by
  have h1 : Below B W0 (wA.alloc o) := hb.alloc hB o
  have hs : (wA.alloc o).heap.size = wA.heap.size + 1 := by simp
  refine ⟨hg.os.trans h1.os, hg.tape.trans h1.tape, hg.output.trans h1.output, Nat.le_trans h1.size hg.size, fun k hk => ?_⟩
  refine (hg.block k (by omega) ?_).trans (h1.block k hk)
  rcases hown.2 with ⟨rfl, _⟩ | ⟨g, cap, cur, rfl, hbg, _⟩
  · simp [Value.ownBlock]
  · simp [Value.ownBlock]
    omega

set_option maxRecDepth 100000 in
set_option maxHeartbeats 8000000 in
theorem changes_in (n : Nat) (hn : 6 ≤ n) (va : Value) (l : List Sec) (w : World) (ha : Secs w va l) (a24 : l.length ≤ 24) (alla : allS l) :
    CallsIn Fence.wide n Try.prog 56 #[va] w (ChPost w l) := by
  have h1 : 1 ≤ n := by omega
  obtain ⟨i0, hi, hz0, hz1, hz2⟩ := info_parts info_d
  obtain ⟨pa, ca, rfl⟩ : ∃ p c, va = .slice p l.length c := by obtain ⟨⟨p, c, h, _⟩, _⟩ := ha; exact ⟨p, c, h⟩
  have HI := Lib.hid hi
  clear hi
  refine callsIn_of_wp_marks Try.func56 rfl trivial ?_ rfl
  simp only [Try.ntmps56, List.size_toArray, List.length_cons, List.length_nil, Nat.reduceAdd, Nat.reduceSub, Array.replicate_succ, Array.replicate_zero, List.push_toArray, List.append_toArray, List.nil_append, List.cons_append]
  gi_wp2_with (refine ⟨trivial, ?_⟩; gi_at_call 55; refine (callsIn_wide.2 (turns_c _ _ _ _)).mono ?_; rintro e w' ⟨rfl, rfl⟩)
  obtain ⟨W0, hW0⟩ : ∃ W0, (((w.alloc (.cells #[.slice none 0 0] 76)).alloc (.cells #[(.slice pa l.length ca)] 53)).alloc (.cells #[.slice (some ⟨w.heap.size + 1, 0, none⟩) 1 1] 88)) = W0 := ⟨_, rfl⟩
  have bA : Boxed W0 (w.heap.size) 76 (.slice none 0 0) := by
    rw [← hW0]
    exact ((Boxed.new w 76 (.slice none 0 0)).alloc (.cells #[(.slice pa l.length ca)] 53)).alloc (.cells #[.slice (some ⟨w.heap.size + 1, 0, none⟩) 1 1] 88)
  have kQ : W0.cell? ⟨w.heap.size + 1, 0, none⟩ = some (.slice pa l.length ca) := by rw [← hW0]; clear hW0; go_simp
  have kS : W0.cell? ⟨w.heap.size + 1 + 1, 0, none⟩ = some (.slice (some ⟨w.heap.size + 1, 0, none⟩) 1 1) := by rw [← hW0]; clear hW0; go_simp
  have hB0 : Below w.heap.size w W0 := by rw [← hW0]; clear hW0; exact (by repeat (first | with_reducible exact Below.refl _ _ | with_reducible assumption | with_reducible refine Below.setCell ?_ (by first | omega | (simp <;> omega)) _ | with_reducible refine balloc ?_ _ | with_reducible refine Below.drew ?_ | with_reducible refine bstep ?_ (by with_reducible assumption)))
  have hsz : W0.heap.size = w.heap.size + 3 := by rw [← hW0]; simp
  rw [hW0]
  clear hW0
  have hL : Lis W0 (w.heap.size + 1) [l] (fun _ => (.slice pa l.length ca)) := ⟨by simp, by simp, fun i hi => by
      obtain rfl : i = 0 := by simp at hi; omega
      exact a24, fun i hi => by
      obtain rfl : i = 0 := by simp at hi; omega
      exact ⟨kQ, ha.below hB0⟩⟩
  have one_fl : [l].flatten = l := by simp
  refine wpIn_rangeFunc_ownH rfl h1 (gf := 67) (lb := #[.pointer (some ⟨w.heap.size + 1 + 1, 0, none⟩)]) rfl trivial (enters_of Try.func67 (by kernel_rfl) rfl)
    (turns_stops (n - 1) (by omega) (w.heap.size + 1 + 1) (w.heap.size + 1 + 1 + 1) (w.heap.size + 1) [l] _ [w.heap.size] (by simp; omega) (by rw [one_fl]; exact alla) W0 kS (by omega) hL) kp_t (kp_b (by omega)) (Below.refl _ _) (fun _ => rfl)
    (fun pre W => (∃ v, Boxed W (w.heap.size) 76 v ∧ W.ownsRow (w.heap.size + 1 + 1 + 1) 55 2 v (lsD pre).length (flatV (lsD pre)) ∧ True) ∧ Kp [w.heap.size] (w.heap.size + 1 + 1 + 1) W0 W)
    (fun _ _ _ => False)
    (OwnFrom.and (Own.from (holdsRow_own (w.heap.size + 1 + 1 + 1) (w.heap.size) 76 55 2 (fun pre => (lsD pre).length) (fun pre => flatV (lsD pre)) (fun _ _ => True)) _) (ownFrom_kp (by omega) (by omega)))
    (fun _ _ _ _ _ hs _ _ => hs)
    ⟨⟨_, bA, World.ownsRow_nil _ _ _ _, trivial⟩, Kp.refl _ _ _⟩
    (fun x a' W => ∃ Bx v, Box2 W Bx 55 x.1 ∧ Boxed W (w.heap.size) 76 v ∧ v.ownBlock ≠ some Bx ∧ w.heap.size + 1 + 1 + 1 ≤ Bx ∧ a' = { tmps := #[(.slice pa l.length ca), undef, .slice none 0 0, .pointer (some ⟨w.heap.size, 0, none⟩), .slice none 0 0, .pointer (some ⟨Bx, 0, none⟩), undef, undef, undef, (.slice pa l.length ca), .slice (some ⟨w.heap.size + 1, 0, none⟩) 1 1, .func (.func 67) #[] #[.pointer (some ⟨w.heap.size + 1 + 1, 0, none⟩)], .agg #[(.int .i64 (x.1.1)), (.int .i64 (x.1.2))], undef, undef, undef, undef, undef, undef, undef, undef, undef, undef, undef, undef, undef, undef, undef, undef, undef, undef, undef, undef, undef, undef, undef, undef, undef, undef, undef, undef, undef, undef, undef, undef, undef, undef, undef, undef, undef, undef], defers := [] })
    (fun x a' _ X Y row hs hg hr => by
      obtain ⟨Bx, v, e1, e2, e5, e4, e3⟩ := hs
      exact ⟨Bx, v, box2_own Bx _ (fun (_ : Unit) => x.1) () X Y row e1 hg (fun r e => (hr r e).2), boxed_own _ _ (fun (_ : Unit) => v) () X Y row e2 hg (fun r e => (hr r e).2), e5, e4, e3⟩)
    ?assign ?body ?done ?stop
  case assign =>
    rintro ll pre x W K ⟨⟨v, bV, hrow, -⟩, hK1⟩ hK
    have hs1 := hK1.but.size
    unfold encD
    gi_wp2
    exact hK _ _ ((KeepsOthers.alloc _ _).from _) ((Kp.refl _ _ W).alloc (by omega) _) ⟨⟨v, bV.alloc _, hrow.alloc _, trivial⟩, hK1.alloc (by omega) _⟩ ⟨_, v, Box2.new W _ x.1, bV.alloc _, fun e => by have := (hrow.lt _ e).2; omega, by omega, rfl⟩
  case body =>
    rintro ll pre ⟨⟨x1, x2⟩, hx⟩ a' W hll ⟨r, hr⟩ ⟨⟨v, bA1, hrow, -⟩, hK1⟩ ⟨Bx, v2, bx, bA2, hne, hBx, rfl⟩ hlt
    obtain rfl : v = v2 := by have h1 : W.heap[_]? = some _ := bA1; have h2 : W.heap[_]? = some _ := bA2; rw [h1] at h2; simpa using h2
    clear bA2
    have hra : W0.heap.size = w.heap.size + 1 + 1 + 1 := by omega
    have hsW := hK1.but.size
    have HR := Lib.hid hrow
    have hll2 : (lsD pre).length ≤ 200 := by rw [lsD_length]; rw [one_fl] at hlt; omega
    clear hrow
    have ka0 := bA1.cell
    have ja0 := bA1.frozen
    have kx0 : W.cell? ⟨Bx, 0, none⟩ = some (.int .i64 x1) := bx.c0
    have kx1 : W.cell? ⟨Bx, 1, none⟩ = some (.int .i64 x2) := bx.c1
    have za : w.heap.size < W.heap.size := by omega
    have zx := bx.lt
    gi_wp2_with fail
    have hHeld : (fun w' : World => w'.cell? ⟨Bx, 0, none⟩ = some (.int .i64 x1) ∧ w'.cell? ⟨Bx, 1, none⟩ = some (.int .i64 x2)) W.drew := (by first | (go_keep; done) | ((repeat' apply And.intro) <;> go_simp))
    refine wpIn_mono (Q := NoPanic _) ?_ (fun e a w h => NoPanic.imp e a w h)
    refine wpIn_region_heldF (S := fun w' => w'.cell? ⟨Bx, 0, none⟩ = some (.int .i64 x1) ∧ w'.cell? ⟨Bx, 1, none⟩ = some (.int .i64 x2)) (by kernel_rfl) ?_
    refine wpAnyHF_take (i := 1) (oi := ⟨some 14, _, _, _, _, _⟩) (v := ?_) (by kernel_rfl) rfl (by kernel_rfl) (by kernel_rfl) (by kernel_rfl) (fun _ _ _ h => h) (Or.inl ⟨by rfl, ?_⟩) (fun _ => rfl) (by assumption) ?_
    rotate_left
    · intro w hSw; (try dsimp only at hSw); go_simp; try with_reducible rfl
    try simp only [Act.put, List.setIfInBounds_toArray, List.set_cons_zero, List.set_cons_succ]
    refine wpAnyHF_ready (rs := [0, 2]) (by kernel_rfl) (by simp) ?_
    refine allF_cons (OneF.mk' (o := ⟨some 13, _, _, _, _, _⟩) rfl (by rfl) (fun KK hKK => ?_)) (allF_cons (OneF.mk' (o := ⟨some 15, _, _, _, _, _⟩) rfl (by rfl) (fun KK hKK => ?_)) allF_nil)
    · go_simp
      (try gi_wp2_with fail)
      refine hKK _ _ (by first | (go_keep; done) | ((repeat' apply And.intro) <;> go_simp)) (fun hHeld => ?_)
      clear hKK KK
      try simp only [Act.put, List.setIfInBounds_toArray, List.set_cons_zero, List.set_cons_succ]
      refine wpAnyHF_one (i := 2) (o := ⟨some 15, _, _, _, _, _⟩) (by kernel_rfl) rfl (by rfl) (fun KK hKK => ?_)
      go_simp
      (try gi_wp2_with fail)
      refine ⟨trivial, ?_⟩
      (try refine ⟨(fun h => by cases h), ?_⟩)
      refine (CallsIn.inRound ll (callsIn_wide.2 (least_c x1 x2 _ hx))).mono ?_
      rintro e w1 ⟨rfl, hb1⟩
      have hbW : Below W.heap.size W w1 := bstep (Below.drew (Below.refl _ _)) hb1
      obtain ⟨hcq, _⟩ := bcell hbW
      have q0 := (hcq _ 0 za).trans ka0
      have q1 := (hcq _ 0 zx).trans kx0
      have q2 := (hcq _ 1 zx).trans kx1
      have hs1 := hbW.size
      have za1 : w.heap.size < w1.heap.size := by omega
      have zx1 : Bx < w1.heap.size := by omega
      clear hcq hb1
      (try gi_wp2_with fail)
      refine hKK _ _ (by first | (go_keep; done) | ((repeat' apply And.intro) <;> go_simp)) (fun hHeld => ?_)
      clear hKK KK
      try simp only [Act.put, List.setIfInBounds_toArray, List.set_cons_zero, List.set_cons_succ]
      refine wpAnyHF_one (i := 3) (o := ⟨some 16, _, _, _, _, _⟩) (by kernel_rfl) rfl (by rfl) (fun KK hKK => ?_)
      go_simp
      (try gi_wp2_with fail)
      refine hKK _ _ (by first | (go_keep; done) | ((repeat' apply And.intro) <;> go_simp)) (fun hHeld => ?_)
      clear hKK KK
      try simp only [Act.put, List.setIfInBounds_toArray, List.set_cons_zero, List.set_cons_succ]
      refine wpAnyHF_one (i := 4) (o := ⟨some 17, _, _, _, _, _⟩) (by kernel_rfl) rfl (by rfl) (fun KK hKK => ?_)
      have HOW := own_below HR.out hbW
      refine opIn_append_own _ _ 76 rfl (w.heap.size + 1 + 1 + 1) 55 i0 (.agg #[(.int .i64 0), (.int .i64 0)]) 2 16 Try.underlying76 HI.out hz0 hz1 hz2 rfl (by decide) v _ _ (by rfl) (HOW.alloc _) ⟨w1.heap.size, 0, none⟩ 1 1 [(.int .i64 ((leV (x1, x2)).1)), (.int .i64 ((leV (x1, x2)).2))] (by rfl) rfl (two_new _ _ _ _) (by simp [Value.oneCell']) (by unfold maxLen; omega) (by omega) (by simp; omega) ?_
      intro v1 w2 hown1 hgrow1
      obtain ⟨g1, cap1, rfl⟩ := ownsRow_succ hown1
      obtain ⟨bA, bA2, ho2, hko, hkp⟩ := app_all (bxd_below bA1 hbW za) (by omega) HOW (by omega) hown1 hgrow1
      have r0 := bA.cell
      have rf := bA.frozen
      have HG := Lib.hid hgrow1
      have HO1 := Lib.hid hown1
      clear hown1 hgrow1
      have bx2 : Box2 w2 Bx 55 (x1, x2) := (HG.out.block Bx (by simp; omega) (fun e => hne e.symm)).trans ((Below.heap_alloc _ _ _ (by omega)).trans ((hbW.block Bx zx).trans bx))
      have y1 : w2.cell? ⟨Bx, 0, none⟩ = some (.int .i64 x1) := bx2.c0
      have y2 : w2.cell? ⟨Bx, 1, none⟩ = some (.int .i64 x2) := bx2.c1
      clear bx2
      refine hKK _ _ (by first | (go_keep; done) | ((repeat' apply And.intro) <;> go_simp)) (fun hHeld => ?_)
      clear hKK KK
      try simp only [Act.put, List.setIfInBounds_toArray, List.set_cons_zero, List.set_cons_succ]
      refine wpAnyHF_one (i := 5) (o := ⟨none, _, _, _, _, _⟩) (by kernel_rfl) rfl (by rfl) (fun KK hKK => ?_)
      go_simp
      (try gi_wp2_with fail)
      refine hKK _ _ (by first | (go_keep; done) | ((repeat' apply And.intro) <;> go_simp)) (fun hHeld => ?_)
      clear hKK KK
      try simp only [Act.put, List.setIfInBounds_toArray, List.set_cons_zero, List.set_cons_succ]
      refine wpAnyHF_done (by kernel_rfl) (NoPanic.normal ?_) _
      gi_wp2
      exact ⟨((keeps_of_below hbW).trans hko).from _, (Kp.below hbW (by omega)).trans hkp, ⟨_, bA2, by rw [lsD_snoc, List.length_append, flatV_app]; exact ho2, trivial⟩, hK1.trans ((Kp.below hbW (by omega)).trans hkp)⟩
    · go_simp
      (try gi_wp2_with fail)
      refine ⟨trivial, ?_⟩
      (try refine ⟨(fun h => by cases h), ?_⟩)
      refine (CallsIn.inRound ll (callsIn_wide.2 (least_c x1 x2 _ hx))).mono ?_
      rintro e w1 ⟨rfl, hb1⟩
      have hbW : Below W.heap.size W w1 := bstep (Below.drew (Below.refl _ _)) hb1
      obtain ⟨hcq, _⟩ := bcell hbW
      have q0 := (hcq _ 0 za).trans ka0
      have q1 := (hcq _ 0 zx).trans kx0
      have q2 := (hcq _ 1 zx).trans kx1
      have hs1 := hbW.size
      have za1 : w.heap.size < w1.heap.size := by omega
      have zx1 : Bx < w1.heap.size := by omega
      clear hcq hb1
      (try gi_wp2_with fail)
      refine hKK _ _ (by first | (go_keep; done) | ((repeat' apply And.intro) <;> go_simp)) (fun hHeld => ?_)
      clear hKK KK
      try simp only [Act.put, List.setIfInBounds_toArray, List.set_cons_zero, List.set_cons_succ]
      refine wpAnyHF_ready (rs := [0, 3]) (by kernel_rfl) (by simp) ?_
      refine allF_cons (OneF.mk' (o := ⟨some 13, _, _, _, _, _⟩) rfl (by rfl) (fun KK hKK => ?_)) (allF_cons (OneF.mk' (o := ⟨some 16, _, _, _, _, _⟩) rfl (by rfl) (fun KK hKK => ?_)) allF_nil)
      · go_simp
        (try gi_wp2_with fail)
        refine hKK _ _ (by first | (go_keep; done) | ((repeat' apply And.intro) <;> go_simp)) (fun hHeld => ?_)
        clear hKK KK
        try simp only [Act.put, List.setIfInBounds_toArray, List.set_cons_zero, List.set_cons_succ]
        refine wpAnyHF_one (i := 3) (o := ⟨some 16, _, _, _, _, _⟩) (by kernel_rfl) rfl (by rfl) (fun KK hKK => ?_)
        go_simp
        (try gi_wp2_with fail)
        refine hKK _ _ (by first | (go_keep; done) | ((repeat' apply And.intro) <;> go_simp)) (fun hHeld => ?_)
        clear hKK KK
        try simp only [Act.put, List.setIfInBounds_toArray, List.set_cons_zero, List.set_cons_succ]
        refine wpAnyHF_one (i := 4) (o := ⟨some 17, _, _, _, _, _⟩) (by kernel_rfl) rfl (by rfl) (fun KK hKK => ?_)
        have HOW := own_below HR.out hbW
        refine opIn_append_own _ _ 76 rfl (w.heap.size + 1 + 1 + 1) 55 i0 (.agg #[(.int .i64 0), (.int .i64 0)]) 2 16 Try.underlying76 HI.out hz0 hz1 hz2 rfl (by decide) v _ _ (by rfl) (HOW.alloc _) ⟨w1.heap.size, 0, none⟩ 1 1 [(.int .i64 ((leV (x1, x2)).1)), (.int .i64 ((leV (x1, x2)).2))] (by rfl) rfl (two_new _ _ _ _) (by simp [Value.oneCell']) (by unfold maxLen; omega) (by omega) (by simp; omega) ?_
        intro v1 w2 hown1 hgrow1
        obtain ⟨g1, cap1, rfl⟩ := ownsRow_succ hown1
        obtain ⟨bA, bA2, ho2, hko, hkp⟩ := app_all (bxd_below bA1 hbW za) (by omega) HOW (by omega) hown1 hgrow1
        have r0 := bA.cell
        have rf := bA.frozen
        have HG := Lib.hid hgrow1
        have HO1 := Lib.hid hown1
        clear hown1 hgrow1
        have bx2 : Box2 w2 Bx 55 (x1, x2) := (HG.out.block Bx (by simp; omega) (fun e => hne e.symm)).trans ((Below.heap_alloc _ _ _ (by omega)).trans ((hbW.block Bx zx).trans bx))
        have y1 : w2.cell? ⟨Bx, 0, none⟩ = some (.int .i64 x1) := bx2.c0
        have y2 : w2.cell? ⟨Bx, 1, none⟩ = some (.int .i64 x2) := bx2.c1
        clear bx2
        refine hKK _ _ (by first | (go_keep; done) | ((repeat' apply And.intro) <;> go_simp)) (fun hHeld => ?_)
        clear hKK KK
        try simp only [Act.put, List.setIfInBounds_toArray, List.set_cons_zero, List.set_cons_succ]
        refine wpAnyHF_one (i := 5) (o := ⟨none, _, _, _, _, _⟩) (by kernel_rfl) rfl (by rfl) (fun KK hKK => ?_)
        go_simp
        (try gi_wp2_with fail)
        refine hKK _ _ (by first | (go_keep; done) | ((repeat' apply And.intro) <;> go_simp)) (fun hHeld => ?_)
        clear hKK KK
        try simp only [Act.put, List.setIfInBounds_toArray, List.set_cons_zero, List.set_cons_succ]
        refine wpAnyHF_done (by kernel_rfl) (NoPanic.normal ?_) _
        gi_wp2
        exact ⟨((keeps_of_below hbW).trans hko).from _, (Kp.below hbW (by omega)).trans hkp, ⟨_, bA2, by rw [lsD_snoc, List.length_append, flatV_app]; exact ho2, trivial⟩, hK1.trans ((Kp.below hbW (by omega)).trans hkp)⟩
      · go_simp
        (try gi_wp2_with fail)
        refine hKK _ _ (by first | (go_keep; done) | ((repeat' apply And.intro) <;> go_simp)) (fun hHeld => ?_)
        clear hKK KK
        try simp only [Act.put, List.setIfInBounds_toArray, List.set_cons_zero, List.set_cons_succ]
        refine wpAnyHF_one (i := 0) (o := ⟨some 13, _, _, _, _, _⟩) (by kernel_rfl) rfl (by rfl) (fun KK hKK => ?_)
        go_simp
        (try gi_wp2_with fail)
        refine hKK _ _ (by first | (go_keep; done) | ((repeat' apply And.intro) <;> go_simp)) (fun hHeld => ?_)
        clear hKK KK
        try simp only [Act.put, List.setIfInBounds_toArray, List.set_cons_zero, List.set_cons_succ]
        refine wpAnyHF_one (i := 4) (o := ⟨some 17, _, _, _, _, _⟩) (by kernel_rfl) rfl (by rfl) (fun KK hKK => ?_)
        have HOW := own_below HR.out hbW
        refine opIn_append_own _ _ 76 rfl (w.heap.size + 1 + 1 + 1) 55 i0 (.agg #[(.int .i64 0), (.int .i64 0)]) 2 16 Try.underlying76 HI.out hz0 hz1 hz2 rfl (by decide) v _ _ (by rfl) (HOW.alloc _) ⟨w1.heap.size, 0, none⟩ 1 1 [(.int .i64 ((leV (x1, x2)).1)), (.int .i64 ((leV (x1, x2)).2))] (by rfl) rfl (two_new _ _ _ _) (by simp [Value.oneCell']) (by unfold maxLen; omega) (by omega) (by simp; omega) ?_
        intro v1 w2 hown1 hgrow1
        obtain ⟨g1, cap1, rfl⟩ := ownsRow_succ hown1
        obtain ⟨bA, bA2, ho2, hko, hkp⟩ := app_all (bxd_below bA1 hbW za) (by omega) HOW (by omega) hown1 hgrow1
        have r0 := bA.cell
        have rf := bA.frozen
        have HG := Lib.hid hgrow1
        have HO1 := Lib.hid hown1
        clear hown1 hgrow1
        have bx2 : Box2 w2 Bx 55 (x1, x2) := (HG.out.block Bx (by simp; omega) (fun e => hne e.symm)).trans ((Below.heap_alloc _ _ _ (by omega)).trans ((hbW.block Bx zx).trans bx))
        have y1 : w2.cell? ⟨Bx, 0, none⟩ = some (.int .i64 x1) := bx2.c0
        have y2 : w2.cell? ⟨Bx, 1, none⟩ = some (.int .i64 x2) := bx2.c1
        clear bx2
        refine hKK _ _ (by first | (go_keep; done) | ((repeat' apply And.intro) <;> go_simp)) (fun hHeld => ?_)
        clear hKK KK
        try simp only [Act.put, List.setIfInBounds_toArray, List.set_cons_zero, List.set_cons_succ]
        refine wpAnyHF_one (i := 5) (o := ⟨none, _, _, _, _, _⟩) (by kernel_rfl) rfl (by rfl) (fun KK hKK => ?_)
        go_simp
        (try gi_wp2_with fail)
        refine hKK _ _ (by first | (go_keep; done) | ((repeat' apply And.intro) <;> go_simp)) (fun hHeld => ?_)
        clear hKK KK
        try simp only [Act.put, List.setIfInBounds_toArray, List.set_cons_zero, List.set_cons_succ]
        refine wpAnyHF_done (by kernel_rfl) (NoPanic.normal ?_) _
        gi_wp2
        exact ⟨((keeps_of_below hbW).trans hko).from _, (Kp.below hbW (by omega)).trans hkp, ⟨_, bA2, by rw [lsD_snoc, List.length_append, flatV_app]; exact ho2, trivial⟩, hK1.trans ((Kp.below hbW (by omega)).trans hkp)⟩
  case done =>
    rintro D ys W hD rfl ⟨⟨v, bA1, hrow, -⟩, hK1⟩ hK
    rw [one_fl] at hrow
    dsimp only [Exit.inBlock, Exit.then]
    refine ‹∀ (a : Act) (w : World), Code.wpIn Fence.wide n Try.prog _ _ a w → _› _ _ ?_
    refine wpIn_wide.2 ?_
    have hsW := hK1.but.size
    have hlen : (tuD l).length = 2 * l.length := upto_length _ _
    have hall2 : ∀ i, i < (srV (lsD (tuD l))).length → okD (gv (srV (lsD (tuD l))) i) = true := fun i hi => by
      have := srV_mem (gv_mem hi)
      generalize gv (srV (lsD (tuD l))) i = y at *
      rw [← lsDl_val, List.mem_map] at this
      obtain ⟨x, _, e⟩ := this
      have e' : x.1 = _ := e
      rw [← e']; exact x.2.1
    have hsl : (srV (lsD (tuD l))).length = 2 * l.length := by unfold srV; rw [List.length_mergeSort, lsD_length, hlen]
    have hSO : Calls Try.prog 70 #[v, .func (.func 54) #[] #[]] W fun e W' => e = .returned (.tuple #[]) ∧ W'.ownsRow (w.heap.size + 1 + 1 + 1) 55 2 v (2 * l.length) (flatV (srV (lsD (tuD l)))) ∧ Below (w.heap.size + 1 + 1 + 1) W W' ∧ KeepsOthers W W' := by
      have := sortV_c (w.heap.size + 1 + 1 + 1) v (lsDl (tuD l)) W (by unfold lsDl; rw [List.length_map, hlen]; omega) (by omega) (by rw [lsDl_val]; unfold lsDl; rw [List.length_map]; rw [lsD_length] at hrow; exact hrow)
      rw [lsDl_val] at this
      unfold lsDl at this
      rwa [List.length_map, hlen] at this
    have HCH := Lib.hid (show chL l = chK l (srV (lsD (tuD l))) (srV (lsD (tuD l))).length by unfold chL; rw [lsD_tu alla])
    generalize srV (lsD (tuD l)) = s at *
    obtain ⟨pv, cv, rfl, _, _⟩ := own_form hrow
    have hfv : (lsD (tuD l)).length = 2 * l.length := by rw [lsD_length, hlen]
    clear hrow hlen
    rw [hfv] at hSO bA1
    clear hfv
    generalize hLg : 2 * l.length = L at *
    have hL48 : L ≤ 48 := by omega
    have HSL := Lib.hid hsl
    clear hsl hLg
    have kA0 := bA1.cell
    have HSO := Lib.hid hSO
    have hbw : Below w.heap.size w W := hB0.trans (hK1.but.below (by omega) (by simp))
    have HSA : Hid (∀ W', Below w.heap.size w W' → Secs W' ((.slice pa l.length ca)) l) := Lib.hid (fun W' h => ha.below h)
    clear hSO kQ kS hL
    go_wp2_with fail
    refine Calls.mono HSO.out ?_
    rintro e W1 ⟨rfl, hown1, hbel1, hko1⟩
    have hbw1 : Below w.heap.size w W1 := hbw.trans (hbel1.mono (by omega))
    have hKD1 := hko1.same D _ hK rfl
    have hs1 := hbel1.size
    have bA2 := bxd_below bA1 hbel1 (by omega)
    have kA1 := bA2.cell
    have HOW := Lib.hid hown1
    have HKD := Lib.hid hKD1
    have HALL := Lib.hid hall2
    clear hown1 hbel1 hko1 hK HSO hKD1 hall2 bA1 kA0
    go_wp2_with fail
    go_loopw [4, 22] (fun s4 i wr => ∃ (k : Nat) (vo : Value), i = (.int .i64 k) ∧ k ≤ L ∧ s4 = vo ∧ wr.ownsRow W1.heap.size 55 2 vo (chK l s k).length (flatV (chK l s k)) ∧ Below W1.heap.size W1 wr) (fun _ i _ => L - (intOf i).toNat)
    case atStart => exact ⟨0, _, rfl, by omega, rfl, World.ownsRow_nil _ _ _ _, Below.refl _ _⟩
    case round =>
      obtain ⟨k, vo, rfl, hk, rfl, hown, hbel⟩ := hrel
      have hbwr : Below w.heap.size w wr := hbw1.trans (hbel.mono (by omega))
      have hswr := hbel.size
      have kA2 := (hbel.cell (p := ⟨w.heap.size, 0, none⟩) (by show w.heap.size < _; omega)).trans kA1
      by_cases hlt : k < L
      · obtain ⟨m, hm⟩ : ∃ m, L = m + 1 := ⟨L - 1, by omega⟩
        have h' := HOW.out
        rw [hm] at h'
        obtain ⟨g, cap, e⟩ := ownsRow_succ h'
        rw [← hm] at e
        cases e
        have hgl := (HOW.out.lt g rfl).2
        have hrr := (own_rowV HOW.out (by rw [HSL.out]; exact Nat.le_refl _)).below hgl hbel
        obtain ⟨j, hj⟩ : ∃ j, (k + L - 1) % L = j := ⟨_, rfl⟩
        have hjl : j < L := by rw [← hj]; exact Nat.mod_lt _ (by omega)
        obtain ⟨c1, c2⟩ := hrr k (by rw [HSL.out]; exact hlt)
        obtain ⟨d1, d2⟩ := hrr j (by rw [HSL.out]; exact hjl)
        simp only [Nat.zero_add] at c1 c2 d1 d2
        have HCK := Lib.hid (show chK l s (k + 1) = chK l s k ++ if shL l (gv s k) = shL l (gv s ((k + s.length - 1) % s.length)) then [] else [gv s k] from rfl)
        rw [HSL.out, hj] at HCK
        have hva := HALL.out k (by rw [HSL.out]; exact hlt)
        have hvb := HALL.out j (by rw [HSL.out]; exact hjl)
        have x1 : IntKind.i64.wrap ((k : Int) + (L : Int)) = (k : Int) + (L : Int) := IntWalk.i64_in _ (by omega)
        have x2 : IntKind.i64.wrap ((k : Int) + (L : Int) - 1) = (k : Int) + (L : Int) - 1 := IntWalk.i64_in _ (by omega)
        have x3 : Int.tmod ((k : Int) + (L : Int) - 1) (L : Int) = (j : Int) := by
          rw [show (k : Int) + (L : Int) - 1 = ((k + L - 1 : Nat) : Int) by omega, Int.tmod_eq_emod_of_nonneg (by omega), ← hj]
          simp
        have x4 : ((L : Int) == 0) = false := by rw [beq_eq_false_iff_ne]; omega
        have x5 : (L == 0) = false := by rw [beq_eq_false_iff_ne]; omega
        have x6 : ¬ (L = 0) := by omega
        have HJ := Lib.hid hj
        have hckl := chK_len l s k
        clear h' hrr hj hm
        generalize gv s k = pa1 at *
        generalize gv s j = pb1 at *
        obtain ⟨a1, a2⟩ := pa1
        obtain ⟨b1, b2⟩ := pb1
        dsimp only at c1 c2 d1 d2
        have CA : ∀ W', Below w.heap.size w W' → Calls Try.prog 39 #[(.slice pa l.length ca), .agg #[(.int .i64 a1), (.int .i64 a2)]] W' (Ret W' (.agg #[(.int .i64 0), (.int .i64 0), (.int .i64 0), (.int .i64 0), (.int .i64 ((shL l (a1, a2)).1)), (.int .i64 ((shL l (a1, a2)).2))])) := fun W' h => shown_s a1 a2 (HSA.out W' h) a24 alla (okD_W hva)
        have CB : ∀ W', Below w.heap.size w W' → Calls Try.prog 39 #[(.slice pa l.length ca), .agg #[(.int .i64 b1), (.int .i64 b2)]] W' (Ret W' (.agg #[(.int .i64 0), (.int .i64 0), (.int .i64 0), (.int .i64 0), (.int .i64 ((shL l (b1, b2)).1)), (.int .i64 ((shL l (b1, b2)).2))])) := fun W' h => shown_s b1 b2 (HSA.out W' h) a24 alla (okD_W hvb)
        generalize shL l (a1, a2) = sa at *
        generalize shL l (b1, b2) = sb at *
        obtain ⟨sa1, sa2⟩ := sa
        obtain ⟨sb1, sb2⟩ := sb
        dsimp only at CA CB
        have HO := Lib.hid hown
        clear hown
        have hsw2 : w.heap.size ≤ wr.heap.size := by omega
        have hAw : w.heap.size < wr.heap.size := by omega
        have hgw : g < wr.heap.size := by omega
        have HC := Lib.hid kA1
        clear kA1
        go_wp2_with fail
        refine wp_region_noPanic ?_
        refine wp_region_held_drew (S := fun w' => w'.cell? ⟨w.heap.size, 0, none⟩ = some (.slice (some ⟨g, 0, none⟩) L cv) ∧ w'.cell? ⟨g, j * 2, none⟩ = some (.int .i64 b1) ∧ w'.cell? ⟨g, j * 2 + 1, none⟩ = some (.int .i64 b2)) (by kernel_rfl) (by first | (go_keep; done) | ((repeat' apply And.intro) <;> go_simp)) (fun hHeld => ?_)
        refine wpAnyH_take (i := 0) (oi := ⟨some 27, _, _, _, _, _⟩) (v := ?_) rfl (by kernel_rfl) (by kernel_rfl) (by kernel_rfl) (fun _ _ _ h => h) (Or.inl ⟨by rfl, ?_⟩) (by assumption) ?_
        rotate_left
        · intro w hSw; (try dsimp only at hSw); go_simp; try with_reducible rfl
        try simp only [Act.put, List.setIfInBounds_toArray, List.set_cons_zero, List.set_cons_succ]
        refine wpAnyH_take (i := 1) (oi := ⟨some 28, _, _, _, _, _⟩) (v := ?_) rfl (by kernel_rfl) (by kernel_rfl) (by kernel_rfl) (fun _ _ _ h => h) (Or.inl ⟨by rfl, ?_⟩) (by assumption) ?_
        rotate_left
        · intro w hSw; (try dsimp only at hSw); go_simp; try with_reducible rfl
        try simp only [Act.put, List.setIfInBounds_toArray, List.set_cons_zero, List.set_cons_succ]
        refine wpAnyH_take (i := 2) (oi := ⟨some 29, _, _, _, _, _⟩) (v := ?_) rfl (by kernel_rfl) (by kernel_rfl) (by kernel_rfl) (fun _ _ _ h => h) (Or.inl ⟨by rfl, ?_⟩) (by assumption) ?_
        rotate_left
        · intro w hSw; (try dsimp only at hSw); go_simp; try with_reducible rfl
        try simp only [Act.put, List.setIfInBounds_toArray, List.set_cons_zero, List.set_cons_succ]
        refine wpAnyH_take (i := 3) (oi := ⟨some 30, _, _, _, _, _⟩) (v := ?_) rfl (by kernel_rfl) (by kernel_rfl) (by kernel_rfl) (fun _ _ _ h => h) (Or.inl ⟨by rfl, ?_⟩) (by assumption) ?_
        rotate_left
        · intro w hSw; (try dsimp only at hSw); go_simp; try with_reducible rfl
        try simp only [Act.put, List.setIfInBounds_toArray, List.set_cons_zero, List.set_cons_succ]
        refine wpAnyH_take (i := 4) (oi := ⟨some 31, _, _, _, _, _⟩) (v := ?_) rfl (by kernel_rfl) (by kernel_rfl) (by kernel_rfl) (fun _ _ _ h => h) (Or.inl ⟨by rfl, ?_⟩) (by assumption) ?_
        rotate_left
        · intro w hSw; (try dsimp only at hSw); go_simp; try with_reducible rfl
        try simp only [Act.put, List.setIfInBounds_toArray, List.set_cons_zero, List.set_cons_succ]
        refine wpAnyH_take (i := 5) (oi := ⟨some 32, _, _, _, _, _⟩) (v := ?_) rfl (by kernel_rfl) (by kernel_rfl) (by kernel_rfl) (fun _ _ _ h => h) (Or.inl ⟨by rfl, ?_⟩) (by assumption) ?_
        rotate_left
        · intro w hSw; (try dsimp only at hSw); go_simp; try with_reducible rfl
        try simp only [Act.put, List.setIfInBounds_toArray, List.set_cons_zero, List.set_cons_succ]
        refine wpAnyH_take (i := 6) (oi := ⟨some 33, _, _, _, _, _⟩) (v := ?_) rfl (by kernel_rfl) (by kernel_rfl) (by kernel_rfl) (fun _ _ _ h => h) (Or.inl ⟨by rfl, ?_⟩) (by assumption) ?_
        rotate_left
        · intro w hSw; (try dsimp only at hSw); go_simp; try with_reducible rfl
        try simp only [Act.put, List.setIfInBounds_toArray, List.set_cons_zero, List.set_cons_succ]
        refine wpAnyH_take (i := 7) (oi := ⟨some 34, _, _, _, _, _⟩) (v := ?_) rfl (by kernel_rfl) (by kernel_rfl) (by kernel_rfl) (fun _ _ _ h => h) (Or.inl ⟨by rfl, ?_⟩) (by assumption) ?_
        rotate_left
        · intro w hSw; (try dsimp only at hSw); go_simp; try with_reducible rfl
        try simp only [Act.put, List.setIfInBounds_toArray, List.set_cons_zero, List.set_cons_succ]
        refine wpAnyH_take (i := 8) (oi := ⟨some 35, _, _, _, _, _⟩) (v := ?_) rfl (by kernel_rfl) (by kernel_rfl) (by kernel_rfl) (fun _ _ _ h => h) (Or.inl ⟨by rfl, ?_⟩) (by assumption) ?_
        rotate_left
        · intro w hSw; (try dsimp only at hSw); go_simp; try with_reducible rfl
        try simp only [Act.put, List.setIfInBounds_toArray, List.set_cons_zero, List.set_cons_succ]
        refine wpAnyH_take (i := 9) (oi := ⟨some 36, _, _, _, _, _⟩) (v := ?_) rfl (by kernel_rfl) (by kernel_rfl) (by kernel_rfl) (fun _ _ _ h => h) (Or.inl ⟨by rfl, ?_⟩) (by assumption) ?_
        rotate_left
        · intro w hSw; (try dsimp only at hSw); go_simp; try with_reducible rfl
        try simp only [Act.put, List.setIfInBounds_toArray, List.set_cons_zero, List.set_cons_succ]
        refine wpAnyH_take (i := 10) (oi := ⟨some 37, _, _, _, _, _⟩) (v := ?_) rfl (by kernel_rfl) (by kernel_rfl) (by kernel_rfl) (fun _ _ _ h => h) (Or.inl ⟨by rfl, ?_⟩) (by assumption) ?_
        rotate_left
        · intro w hSw; (try dsimp only at hSw); go_simp; try with_reducible rfl
        try simp only [Act.put, List.setIfInBounds_toArray, List.set_cons_zero, List.set_cons_succ]
        refine wpAnyH_ready (rs := [11]) (by kernel_rfl) (by simp) ?_
        refine AllReadyH.cons (o := ⟨some 8, _, _, _, _, _⟩) rfl (fun KK hKK => ?_) AllReadyH.nil
        go_simp
        (try go_wp2_with fail)
        refine hKK.out _ _ (by first | (go_keep; done) | ((repeat' apply And.intro) <;> go_simp)) (fun hHeld => ?_)
        clear hKK KK
        try simp only [Act.put, List.setIfInBounds_toArray, List.set_cons_zero, List.set_cons_succ]
        refine wpAnyH_ready (rs := [12]) (by kernel_rfl) (by simp) ?_
        refine AllReadyH.cons (o := ⟨none, _, _, _, _, _⟩) rfl (fun KK hKK => ?_) AllReadyH.nil
        go_simp
        (try go_wp2_with fail)
        refine hKK.out _ _ (by first | (go_keep; done) | ((repeat' apply And.intro) <;> go_simp)) (fun hHeld => ?_)
        clear hKK KK
        try simp only [Act.put, List.setIfInBounds_toArray, List.set_cons_zero, List.set_cons_succ]
        refine wpAnyH_done (by kernel_rfl) (NoPanic.normal ?_) _
        go_wp2_with fail
        by_cases q1 : sa1 = sb1
        · by_cases q2 : sa2 = sb2
          · subst q1 q2
            refine wp_region_noPanic ?_
            refine wp_region_held_drew (S := fun w' => w'.cell? ⟨wr.heap.size, 0, none⟩ = some (.int .i64 a1) ∧ w'.cell? ⟨wr.heap.size, 1, none⟩ = some (.int .i64 a2) ∧ w'.cell? ⟨wr.heap.size + 1, 0, none⟩ = some (.int .i64 b1) ∧ w'.cell? ⟨wr.heap.size + 1, 1, none⟩ = some (.int .i64 b2)) (by kernel_rfl) (by first | (go_keep; done) | ((repeat' apply And.intro) <;> go_simp)) (fun hHeld => ?_)
            refine wpAnyH_take (i := 0) (oi := ⟨some 38, _, _, _, _, _⟩) (v := ?_) rfl (by kernel_rfl) (by kernel_rfl) (by kernel_rfl) (fun _ _ _ h => h) (Or.inl ⟨by rfl, ?_⟩) (by assumption) ?_
            rotate_left
            · intro w hSw; (try dsimp only at hSw); go_simp; try with_reducible rfl
            try simp only [Act.put, List.setIfInBounds_toArray, List.set_cons_zero, List.set_cons_succ]
            refine wpAnyH_take (i := 1) (oi := ⟨some 39, _, _, _, _, _⟩) (v := ?_) rfl (by kernel_rfl) (by kernel_rfl) (by kernel_rfl) (fun _ _ _ h => h) (Or.inl ⟨by rfl, ?_⟩) (by assumption) ?_
            rotate_left
            · intro w hSw; (try dsimp only at hSw); go_simp; try with_reducible rfl
            try simp only [Act.put, List.setIfInBounds_toArray, List.set_cons_zero, List.set_cons_succ]
            refine wpAnyH_take (i := 3) (oi := ⟨some 41, _, _, _, _, _⟩) (v := ?_) rfl (by kernel_rfl) (by kernel_rfl) (by kernel_rfl) (fun _ _ _ h => h) (Or.inl ⟨by rfl, ?_⟩) (by assumption) ?_
            rotate_left
            · intro w hSw; (try dsimp only at hSw); go_simp; try with_reducible rfl
            try simp only [Act.put, List.setIfInBounds_toArray, List.set_cons_zero, List.set_cons_succ]
            refine wpAnyH_take (i := 4) (oi := ⟨some 42, _, _, _, _, _⟩) (v := ?_) rfl (by kernel_rfl) (by kernel_rfl) (by kernel_rfl) (fun _ _ _ h => h) (Or.inl ⟨by rfl, ?_⟩) (by assumption) ?_
            rotate_left
            · intro w hSw; (try dsimp only at hSw); go_simp; try with_reducible rfl
            try simp only [Act.put, List.setIfInBounds_toArray, List.set_cons_zero, List.set_cons_succ]
            refine wpAnyH_ready (rs := [2]) (by kernel_rfl) (by simp) ?_
            refine AllReadyH.cons (o := ⟨some 40, _, _, _, _, _⟩) rfl (fun KK hKK => ?_) AllReadyH.nil
            go_simp
            refine Calls.mono (CA _ (by repeat (first | with_reducible exact Below.refl _ _ | with_reducible assumption | with_reducible refine Below.setCell ?_ (by first | omega | (simp <;> omega)) _ | with_reducible refine balloc ?_ _ | with_reducible refine Below.drew ?_ | with_reducible refine bstep ?_ (by with_reducible assumption)))) ?_
            rintro e wc1 ⟨rfl, hb1⟩
            have hb1X : Below wr.heap.size wr wc1 := (by repeat (first | with_reducible exact Below.refl _ _ | with_reducible assumption | with_reducible refine Below.setCell ?_ (by first | omega | (simp <;> omega)) _ | with_reducible refine balloc ?_ _ | with_reducible refine Below.drew ?_ | with_reducible refine bstep ?_ (by with_reducible assumption)))
            have hb1B : Below w.heap.size w wc1 := hbwr.trans (hb1X.mono hsw2)
            have hb1s := hb1.size
            (try simp at hb1s)
            obtain ⟨hc_wc1, _⟩ := bcell hb1
            have g7_wc1 := fun o => hc_wc1 wr.heap.size o (by first | omega | (simp <;> omega))
            have g8_wc1 := fun o => hc_wc1 (wr.heap.size + 1) o (by first | omega | (simp <;> omega))
            clear hc_wc1
            (try go_wp2_with fail)
            refine hKK.out _ _ (by first | (go_keep; done) | ((repeat' apply And.intro) <;> go_simp)) (fun hHeld => ?_)
            clear hKK KK
            try simp only [Act.put, List.setIfInBounds_toArray, List.set_cons_zero, List.set_cons_succ]
            refine wpAnyH_ready (rs := [5]) (by kernel_rfl) (by simp) ?_
            refine AllReadyH.cons (o := ⟨some 43, _, _, _, _, _⟩) rfl (fun KK hKK => ?_) AllReadyH.nil
            go_simp
            refine Calls.mono (CB _ (by repeat (first | with_reducible exact Below.refl _ _ | with_reducible assumption | with_reducible refine Below.setCell ?_ (by first | omega | (simp <;> omega)) _ | with_reducible refine balloc ?_ _ | with_reducible refine Below.drew ?_ | with_reducible refine bstep ?_ (by with_reducible assumption)))) ?_
            rintro e wc2 ⟨rfl, hb2⟩
            have hb2X : Below wr.heap.size wr wc2 := (by repeat (first | with_reducible exact Below.refl _ _ | with_reducible assumption | with_reducible refine Below.setCell ?_ (by first | omega | (simp <;> omega)) _ | with_reducible refine balloc ?_ _ | with_reducible refine Below.drew ?_ | with_reducible refine bstep ?_ (by with_reducible assumption)))
            have hb2B : Below w.heap.size w wc2 := hbwr.trans (hb2X.mono hsw2)
            have hb2s := hb2.size
            (try simp at hb2s)
            obtain ⟨hc_wc2, _⟩ := bcell hb2
            have g7_wc2 := fun o => hc_wc2 wr.heap.size o (by first | omega | (simp <;> omega))
            have g8_wc2 := fun o => hc_wc2 (wr.heap.size + 1) o (by first | omega | (simp <;> omega))
            clear hc_wc2
            (try go_wp2_with fail)
            refine hKK.out _ _ (by first | (go_keep; done) | ((repeat' apply And.intro) <;> go_simp)) (fun hHeld => ?_)
            clear hKK KK
            try simp only [Act.put, List.setIfInBounds_toArray, List.set_cons_zero, List.set_cons_succ]
            refine wpAnyH_take (i := 6) (oi := ⟨some 44, _, _, _, _, _⟩) (v := ?_) rfl (by kernel_rfl) (by kernel_rfl) (by kernel_rfl) (fun _ _ _ h => h) (Or.inl ⟨by rfl, ?_⟩) (by assumption) ?_
            rotate_left
            · intro w hSw; (try dsimp only at hSw); go_simp; try with_reducible rfl
            try simp only [Act.put, List.setIfInBounds_toArray, List.set_cons_zero, List.set_cons_succ]
            refine wpAnyH_done (by kernel_rfl) (NoPanic.normal ?_) _
            have hbx : Below wr.heap.size wr wc2 := hb2X
            go_wp2
            go_roundw
            case rel => exact ⟨k + 1, _, by simp, by omega, rfl, by rw [show chK l s (k + 1) = chK l s k by rw [HCK.out]; simp]; exact own_below HO.out hbx, hbel.trans (hbx.mono hswr)⟩
            case measure => simp [intOf]; omega
          · have q3 : ¬ ((sa1, sa2) = (sb1, sb2)) := fun h => q2 (congrArg Prod.snd h)
            subst q1
            refine wp_region_noPanic ?_
            refine wp_region_held_drew (S := fun w' => w'.cell? ⟨wr.heap.size, 0, none⟩ = some (.int .i64 a1) ∧ w'.cell? ⟨wr.heap.size, 1, none⟩ = some (.int .i64 a2) ∧ w'.cell? ⟨wr.heap.size + 1, 0, none⟩ = some (.int .i64 b1) ∧ w'.cell? ⟨wr.heap.size + 1, 1, none⟩ = some (.int .i64 b2)) (by kernel_rfl) (by first | (go_keep; done) | ((repeat' apply And.intro) <;> go_simp)) (fun hHeld => ?_)
            refine wpAnyH_take (i := 0) (oi := ⟨some 38, _, _, _, _, _⟩) (v := ?_) rfl (by kernel_rfl) (by kernel_rfl) (by kernel_rfl) (fun _ _ _ h => h) (Or.inl ⟨by rfl, ?_⟩) (by assumption) ?_
            rotate_left
            · intro w hSw; (try dsimp only at hSw); go_simp; try with_reducible rfl
            try simp only [Act.put, List.setIfInBounds_toArray, List.set_cons_zero, List.set_cons_succ]
            refine wpAnyH_take (i := 1) (oi := ⟨some 39, _, _, _, _, _⟩) (v := ?_) rfl (by kernel_rfl) (by kernel_rfl) (by kernel_rfl) (fun _ _ _ h => h) (Or.inl ⟨by rfl, ?_⟩) (by assumption) ?_
            rotate_left
            · intro w hSw; (try dsimp only at hSw); go_simp; try with_reducible rfl
            try simp only [Act.put, List.setIfInBounds_toArray, List.set_cons_zero, List.set_cons_succ]
            refine wpAnyH_take (i := 3) (oi := ⟨some 41, _, _, _, _, _⟩) (v := ?_) rfl (by kernel_rfl) (by kernel_rfl) (by kernel_rfl) (fun _ _ _ h => h) (Or.inl ⟨by rfl, ?_⟩) (by assumption) ?_
            rotate_left
            · intro w hSw; (try dsimp only at hSw); go_simp; try with_reducible rfl
            try simp only [Act.put, List.setIfInBounds_toArray, List.set_cons_zero, List.set_cons_succ]
            refine wpAnyH_take (i := 4) (oi := ⟨some 42, _, _, _, _, _⟩) (v := ?_) rfl (by kernel_rfl) (by kernel_rfl) (by kernel_rfl) (fun _ _ _ h => h) (Or.inl ⟨by rfl, ?_⟩) (by assumption) ?_
            rotate_left
            · intro w hSw; (try dsimp only at hSw); go_simp; try with_reducible rfl
            try simp only [Act.put, List.setIfInBounds_toArray, List.set_cons_zero, List.set_cons_succ]
            refine wpAnyH_ready (rs := [2]) (by kernel_rfl) (by simp) ?_
            refine AllReadyH.cons (o := ⟨some 40, _, _, _, _, _⟩) rfl (fun KK hKK => ?_) AllReadyH.nil
            go_simp
            refine Calls.mono (CA _ (by repeat (first | with_reducible exact Below.refl _ _ | with_reducible assumption | with_reducible refine Below.setCell ?_ (by first | omega | (simp <;> omega)) _ | with_reducible refine balloc ?_ _ | with_reducible refine Below.drew ?_ | with_reducible refine bstep ?_ (by with_reducible assumption)))) ?_
            rintro e wc1 ⟨rfl, hb1⟩
            have hb1X : Below wr.heap.size wr wc1 := (by repeat (first | with_reducible exact Below.refl _ _ | with_reducible assumption | with_reducible refine Below.setCell ?_ (by first | omega | (simp <;> omega)) _ | with_reducible refine balloc ?_ _ | with_reducible refine Below.drew ?_ | with_reducible refine bstep ?_ (by with_reducible assumption)))
            have hb1B : Below w.heap.size w wc1 := hbwr.trans (hb1X.mono hsw2)
            have hb1s := hb1.size
            (try simp at hb1s)
            obtain ⟨hc_wc1, _⟩ := bcell hb1
            have g7_wc1 := fun o => hc_wc1 wr.heap.size o (by first | omega | (simp <;> omega))
            have g8_wc1 := fun o => hc_wc1 (wr.heap.size + 1) o (by first | omega | (simp <;> omega))
            clear hc_wc1
            (try go_wp2_with fail)
            refine hKK.out _ _ (by first | (go_keep; done) | ((repeat' apply And.intro) <;> go_simp)) (fun hHeld => ?_)
            clear hKK KK
            try simp only [Act.put, List.setIfInBounds_toArray, List.set_cons_zero, List.set_cons_succ]
            refine wpAnyH_ready (rs := [5]) (by kernel_rfl) (by simp) ?_
            refine AllReadyH.cons (o := ⟨some 43, _, _, _, _, _⟩) rfl (fun KK hKK => ?_) AllReadyH.nil
            go_simp
            refine Calls.mono (CB _ (by repeat (first | with_reducible exact Below.refl _ _ | with_reducible assumption | with_reducible refine Below.setCell ?_ (by first | omega | (simp <;> omega)) _ | with_reducible refine balloc ?_ _ | with_reducible refine Below.drew ?_ | with_reducible refine bstep ?_ (by with_reducible assumption)))) ?_
            rintro e wc2 ⟨rfl, hb2⟩
            have hb2X : Below wr.heap.size wr wc2 := (by repeat (first | with_reducible exact Below.refl _ _ | with_reducible assumption | with_reducible refine Below.setCell ?_ (by first | omega | (simp <;> omega)) _ | with_reducible refine balloc ?_ _ | with_reducible refine Below.drew ?_ | with_reducible refine bstep ?_ (by with_reducible assumption)))
            have hb2B : Below w.heap.size w wc2 := hbwr.trans (hb2X.mono hsw2)
            have hb2s := hb2.size
            (try simp at hb2s)
            obtain ⟨hc_wc2, _⟩ := bcell hb2
            have g7_wc2 := fun o => hc_wc2 wr.heap.size o (by first | omega | (simp <;> omega))
            have g8_wc2 := fun o => hc_wc2 (wr.heap.size + 1) o (by first | omega | (simp <;> omega))
            clear hc_wc2
            (try go_wp2_with fail)
            refine hKK.out _ _ (by first | (go_keep; done) | ((repeat' apply And.intro) <;> go_simp)) (fun hHeld => ?_)
            clear hKK KK
            try simp only [Act.put, List.setIfInBounds_toArray, List.set_cons_zero, List.set_cons_succ]
            refine wpAnyH_take (i := 6) (oi := ⟨some 44, _, _, _, _, _⟩) (v := ?_) rfl (by kernel_rfl) (by kernel_rfl) (by kernel_rfl) (fun _ _ _ h => h) (Or.inl ⟨by rfl, ?_⟩) (by assumption) ?_
            rotate_left
            · intro w hSw; (try dsimp only at hSw); go_simp; try with_reducible rfl
            try simp only [Act.put, List.setIfInBounds_toArray, List.set_cons_zero, List.set_cons_succ]
            refine wpAnyH_done (by kernel_rfl) (NoPanic.normal ?_) _
            have hbx : Below wr.heap.size wr wc2 := hb2X
            have HOW2 := own_below HO.out hbx
            have hbw2 : Below W1.heap.size W1 wc2 := hbel.trans (hbx.mono hswr)
            have hsc := hbx.size
            go_wp2_with (at_builtin; go_must (refine wpList_append_own _ rfl _ _ 76 rfl W1.heap.size 55 i0 (.agg #[(.int .i64 0), (.int .i64 0)]) 2 16 Try.underlying76 HI.out hz0 hz1 hz2 rfl (by decide) _ _ _ rfl (HOW2.alloc _) ⟨wc2.heap.size, 0, none⟩ 1 1 [(.int .i64 a1), (.int .i64 a2)] rfl rfl (two_new _ _ _ _) (by simp [Value.oneCell']) (by unfold maxLen; omega) (by omega) (by simp; omega) ?_); intro v1 w3 hown1 hgrow1 _)
            have hR1 := below_app hbw2 (by omega) HOW2 hgrow1
            have HR2 := Lib.hid hown1
            clear hown1 hgrow1
            go_wp2
            go_roundw
            case rel => exact ⟨k + 1, _, by simp, by omega, rfl, by rw [HCK.out, if_neg q3, List.length_append, flatV_app]; exact HR2.out, hR1⟩
            case measure => simp [intOf]; omega
        · have q3 : ¬ ((sa1, sa2) = (sb1, sb2)) := fun h => q1 (congrArg Prod.fst h)
          refine wp_region_noPanic ?_
          refine wp_region_held_drew (S := fun w' => w'.cell? ⟨wr.heap.size, 0, none⟩ = some (.int .i64 a1) ∧ w'.cell? ⟨wr.heap.size, 1, none⟩ = some (.int .i64 a2) ∧ w'.cell? ⟨wr.heap.size + 1, 0, none⟩ = some (.int .i64 b1) ∧ w'.cell? ⟨wr.heap.size + 1, 1, none⟩ = some (.int .i64 b2)) (by kernel_rfl) (by first | (go_keep; done) | ((repeat' apply And.intro) <;> go_simp)) (fun hHeld => ?_)
          refine wpAnyH_take (i := 0) (oi := ⟨some 38, _, _, _, _, _⟩) (v := ?_) rfl (by kernel_rfl) (by kernel_rfl) (by kernel_rfl) (fun _ _ _ h => h) (Or.inl ⟨by rfl, ?_⟩) (by assumption) ?_
          rotate_left
          · intro w hSw; (try dsimp only at hSw); go_simp; try with_reducible rfl
          try simp only [Act.put, List.setIfInBounds_toArray, List.set_cons_zero, List.set_cons_succ]
          refine wpAnyH_take (i := 1) (oi := ⟨some 39, _, _, _, _, _⟩) (v := ?_) rfl (by kernel_rfl) (by kernel_rfl) (by kernel_rfl) (fun _ _ _ h => h) (Or.inl ⟨by rfl, ?_⟩) (by assumption) ?_
          rotate_left
          · intro w hSw; (try dsimp only at hSw); go_simp; try with_reducible rfl
          try simp only [Act.put, List.setIfInBounds_toArray, List.set_cons_zero, List.set_cons_succ]
          refine wpAnyH_take (i := 3) (oi := ⟨some 41, _, _, _, _, _⟩) (v := ?_) rfl (by kernel_rfl) (by kernel_rfl) (by kernel_rfl) (fun _ _ _ h => h) (Or.inl ⟨by rfl, ?_⟩) (by assumption) ?_
          rotate_left
          · intro w hSw; (try dsimp only at hSw); go_simp; try with_reducible rfl
          try simp only [Act.put, List.setIfInBounds_toArray, List.set_cons_zero, List.set_cons_succ]
          refine wpAnyH_take (i := 4) (oi := ⟨some 42, _, _, _, _, _⟩) (v := ?_) rfl (by kernel_rfl) (by kernel_rfl) (by kernel_rfl) (fun _ _ _ h => h) (Or.inl ⟨by rfl, ?_⟩) (by assumption) ?_
          rotate_left
          · intro w hSw; (try dsimp only at hSw); go_simp; try with_reducible rfl
          try simp only [Act.put, List.setIfInBounds_toArray, List.set_cons_zero, List.set_cons_succ]
          refine wpAnyH_ready (rs := [2]) (by kernel_rfl) (by simp) ?_
          refine AllReadyH.cons (o := ⟨some 40, _, _, _, _, _⟩) rfl (fun KK hKK => ?_) AllReadyH.nil
          go_simp
          refine Calls.mono (CA _ (by repeat (first | with_reducible exact Below.refl _ _ | with_reducible assumption | with_reducible refine Below.setCell ?_ (by first | omega | (simp <;> omega)) _ | with_reducible refine balloc ?_ _ | with_reducible refine Below.drew ?_ | with_reducible refine bstep ?_ (by with_reducible assumption)))) ?_
          rintro e wc1 ⟨rfl, hb1⟩
          have hb1X : Below wr.heap.size wr wc1 := (by repeat (first | with_reducible exact Below.refl _ _ | with_reducible assumption | with_reducible refine Below.setCell ?_ (by first | omega | (simp <;> omega)) _ | with_reducible refine balloc ?_ _ | with_reducible refine Below.drew ?_ | with_reducible refine bstep ?_ (by with_reducible assumption)))
          have hb1B : Below w.heap.size w wc1 := hbwr.trans (hb1X.mono hsw2)
          have hb1s := hb1.size
          (try simp at hb1s)
          obtain ⟨hc_wc1, _⟩ := bcell hb1
          have g7_wc1 := fun o => hc_wc1 wr.heap.size o (by first | omega | (simp <;> omega))
          have g8_wc1 := fun o => hc_wc1 (wr.heap.size + 1) o (by first | omega | (simp <;> omega))
          clear hc_wc1
          (try go_wp2_with fail)
          refine hKK.out _ _ (by first | (go_keep; done) | ((repeat' apply And.intro) <;> go_simp)) (fun hHeld => ?_)
          clear hKK KK
          try simp only [Act.put, List.setIfInBounds_toArray, List.set_cons_zero, List.set_cons_succ]
          refine wpAnyH_ready (rs := [5]) (by kernel_rfl) (by simp) ?_
          refine AllReadyH.cons (o := ⟨some 43, _, _, _, _, _⟩) rfl (fun KK hKK => ?_) AllReadyH.nil
          go_simp
          refine Calls.mono (CB _ (by repeat (first | with_reducible exact Below.refl _ _ | with_reducible assumption | with_reducible refine Below.setCell ?_ (by first | omega | (simp <;> omega)) _ | with_reducible refine balloc ?_ _ | with_reducible refine Below.drew ?_ | with_reducible refine bstep ?_ (by with_reducible assumption)))) ?_
          rintro e wc2 ⟨rfl, hb2⟩
          have hb2X : Below wr.heap.size wr wc2 := (by repeat (first | with_reducible exact Below.refl _ _ | with_reducible assumption | with_reducible refine Below.setCell ?_ (by first | omega | (simp <;> omega)) _ | with_reducible refine balloc ?_ _ | with_reducible refine Below.drew ?_ | with_reducible refine bstep ?_ (by with_reducible assumption)))
          have hb2B : Below w.heap.size w wc2 := hbwr.trans (hb2X.mono hsw2)
          have hb2s := hb2.size
          (try simp at hb2s)
          obtain ⟨hc_wc2, _⟩ := bcell hb2
          have g7_wc2 := fun o => hc_wc2 wr.heap.size o (by first | omega | (simp <;> omega))
          have g8_wc2 := fun o => hc_wc2 (wr.heap.size + 1) o (by first | omega | (simp <;> omega))
          clear hc_wc2
          (try go_wp2_with fail)
          refine hKK.out _ _ (by first | (go_keep; done) | ((repeat' apply And.intro) <;> go_simp)) (fun hHeld => ?_)
          clear hKK KK
          try simp only [Act.put, List.setIfInBounds_toArray, List.set_cons_zero, List.set_cons_succ]
          refine wpAnyH_take (i := 6) (oi := ⟨some 44, _, _, _, _, _⟩) (v := ?_) rfl (by kernel_rfl) (by kernel_rfl) (by kernel_rfl) (fun _ _ _ h => h) (Or.inl ⟨by rfl, ?_⟩) (by assumption) ?_
          rotate_left
          · intro w hSw; (try dsimp only at hSw); go_simp; try with_reducible rfl
          try simp only [Act.put, List.setIfInBounds_toArray, List.set_cons_zero, List.set_cons_succ]
          refine wpAnyH_done (by kernel_rfl) (NoPanic.normal ?_) _
          have hbx : Below wr.heap.size wr wc2 := hb2X
          have HOW2 := own_below HO.out hbx
          have hbw2 : Below W1.heap.size W1 wc2 := hbel.trans (hbx.mono hswr)
          have hsc := hbx.size
          go_wp2_with (at_builtin; go_must (refine wpList_append_own _ rfl _ _ 76 rfl W1.heap.size 55 i0 (.agg #[(.int .i64 0), (.int .i64 0)]) 2 16 Try.underlying76 HI.out hz0 hz1 hz2 rfl (by decide) _ _ _ rfl (HOW2.alloc _) ⟨wc2.heap.size, 0, none⟩ 1 1 [(.int .i64 a1), (.int .i64 a2)] rfl rfl (two_new _ _ _ _) (by simp [Value.oneCell']) (by unfold maxLen; omega) (by omega) (by simp; omega) ?_); intro v1 w3 hown1 hgrow1 _)
          have hR1 := below_app hbw2 (by omega) HOW2 hgrow1
          have HR2 := Lib.hid hown1
          clear hown1 hgrow1
          go_wp2
          go_roundw
          case rel => exact ⟨k + 1, _, by simp, by omega, rfl, by rw [HCK.out, if_neg q3, List.length_append, flatV_app]; exact HR2.out, hR1⟩
          case measure => simp [intOf]; omega
      · obtain rfl : k = L := by omega
        have HO := Lib.hid hown
        clear hown
        go_wp2
        have hKw := (keeps_of_below hbel).same D _ HKD.out rfl
        refine ⟨by simp, .inl ⟨_, _, rfl, run_takeDeferred hKw, ?_⟩⟩
        refine ⟨_, results_tmp rfl _ _ _, _, rfl, ?_, hbwr.trans (belowK_b (w := w) (Nat.le_refl _) wr D _ _ (by omega) hKw rfl rfl)⟩
        have := ownsRow_putObj (own_base HO.out (base' := w.heap.size) (by omega)) (.deferred none) hKw rfl
        rw [HCH.out, HSL.out]
        exact this
  case stop =>
    rintro D c pre W _ _ h _
    exact h.elim

theorem changes_c (va : Value) (l : List Sec) (w : World) (ha : Secs w va l) (a24 : l.length ≤ 24) (alla : allS l) : Calls Try.prog 56 #[va] w (ChPost w l) :=
  callsIn_wide.1 (changes_in 6 (Nat.le_refl _) va l w ha a24 alla)


end Go.Proofs.Ytpadkmlckmopfaa.Se
